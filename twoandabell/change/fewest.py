"""The fewest changes that make one book alike to another one."""

from twoandabell.base.words import is_row
from twoandabell.book.checks import check_book
from twoandabell.errors import TooMany
from twoandabell.pair.graphs import Graph
from twoandabell.pair.joints import MAX_JOINTS, is_table
from twoandabell.pair.walks import Walk
from twoandabell.run.loads import is_parting

MAX_DIFFERENT = 6


def fewest_changes(book, other):
    """The first one, ascending, of the shortest tuples of keys whose entries are enough to change."""
    keys, _, _ = _fewest(book, other)
    return keys


def change_paper(book, other):
    """A paper that tells the fewest changes: with a table for them, and with a parting load for all fewer ones."""
    keys, table, refusals = _fewest(book, other)
    return keys, table, tuple([(fewer, load) for fewer, load in refusals if len(fewer) < len(keys)])


def is_change_paper(book, other, value):
    """Whether the value is a paper that tells the fewest changes."""
    every = _different_keys(book, other)
    if not is_row(value, 3) or not _are_keys(book, value[0]):
        return False
    keys, table, refusals = value
    if keys not in _choices(every, len(every) + 1) or not is_table(_with_entries(book, other, keys), other, table):
        return False
    fewer = _choices(every, len(keys))
    if not is_row(refusals, len(fewer)):
        return False
    return all([_is_refusal(book, other, keys, pair) for keys, pair in zip(fewer, refusals)])


def _fewest(book, other):
    """The fewest keys that are enough, a table for them, and the pairs of the keys gone through before and a load."""
    every = _different_keys(book, other)
    graph = Graph(other)
    refusals = []
    # All of them together are enough, for they make the one book equal to the other one.
    for keys in _choices(every, len(every) + 1):
        walk = Walk(Graph(_with_entries(book, other, keys)), graph, MAX_JOINTS, whole=False)
        if not walk.apart:
            return keys, walk.reached_table(), refusals
        refusals.append((keys, walk.shortest_load()))
    return None


def _different_keys(book, other):
    """The ascending tuple of the keys of the entries in which two books differ, which are not too many."""
    check_book(book)
    check_book(other)
    keys = book - other
    if len(keys) > MAX_DIFFERENT:
        raise TooMany(MAX_DIFFERENT)
    return keys


def _choices(keys, many):
    """The list of the ascending tuples of fewer than so many of some keys, ordered by their numbers, then ascending."""
    found = []
    layer = [()]
    for _ in range(many):
        found.extend(layer)
        layer = [(*chosen, key) for chosen in layer for key in keys if not chosen or chosen[-1] < key]
    return found


def _with_entries(book, other, keys):
    """The book with some entries of the other one."""
    for key in keys:
        value = other[key]
        book = book.with_entry(*key, value)
    return book


def _are_keys(book, value):
    """Whether the value is a tuple of keys of entries, none of which has a boolean for a number."""
    return isinstance(value, tuple) and all([key in book for key in value])


def _is_refusal(book, other, keys, value):
    """Whether the value is the pair of some keys and of a load that tells that these are not enough."""
    if not is_row(value, 2) or not _are_keys(book, value[0]) or value[0] != keys:
        return False
    return is_parting(_with_entries(book, other, keys), other, value[1])
