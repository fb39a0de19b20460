"""Entries of books that matter, and those that do not."""

from twoandabell.base.words import is_entry, is_row
from twoandabell.book.checks import check_book, entry_at
from twoandabell.errors import InvalidOperation, TooMany
from twoandabell.pair.graphs import Graph
from twoandabell.pair.joints import MAX_JOINTS, is_table
from twoandabell.pair.walks import Walk
from twoandabell.run.loads import is_parting

MAX_WAYS = 64


def matters(book, key):
    """Whether the book with some other value of an entry is not alike to it."""
    others = _other_values(book, key)
    return _is_any_apart(Graph(book), book, key, others)


def idle_keys(book):
    """The ascending tuple of the keys of all entries that do not matter, each alone."""
    check_book(book)
    graph = Graph(book)
    keys = book.entries()
    return tuple([key for key in keys if not _is_any_apart(graph, book, key, _other_values(book, key))])


def entry_paper(book, key):
    """A paper that tells whether an entry matters: with a parting load, or with a table for each other value."""
    others = _other_values(book, key)
    graph = Graph(book)
    tables = []
    for value in others:
        walk = _walk_to(graph, book.with_entry(*key, value))
        if walk.apart:
            return ("matters", value, walk.shortest_load())
        tables.append((value, walk.reached_table()))
    return ("idle", tuple(tables))


def is_entry_paper(book, key, value):
    """Whether the value is a paper that tells whether an entry matters."""
    others = _other_values(book, key)
    if is_row(value, 2):
        return value[0] == "idle" and _are_tables(book, key, others, value[1])
    if not is_row(value, 3):
        return False
    word, other, load = value
    # What has the form of an entry holds no boolean, which could be taken for a number.
    if word != "matters" or not is_entry(key[0], other) or other not in others:
        return False
    return is_parting(book, book.with_entry(*key, other), load)


def are_free(book, keys):
    """Whether the book is alike to each book that has any possible values in some entries."""
    check_book(book)
    if not isinstance(keys, tuple) or not all([key in book for key in keys]) or len(set(keys)) < len(keys):
        raise InvalidOperation("these are not the keys of different entries")
    ways = 1
    for key in keys:
        ways = ways * len(book.values_for(*key))
    if ways > MAX_WAYS:
        raise TooMany(MAX_WAYS)
    graph = Graph(book)
    # None of the books is left out, for each of them can have more joint stands than are allowed.
    return not any([_walk_to(graph, other).apart for other in _books_with(book, keys)])


def _other_values(book, key):
    """The list of the values that an entry can have but its own, in their order."""
    own = entry_at(book, key)
    return [value for value in book.values_for(*key) if value != own]


def _walk_to(graph, other):
    return Walk(graph, Graph(other), MAX_JOINTS, whole=False)


def _is_any_apart(graph, book, key, values):
    """Whether a book parts from the one with some of these values; those behind the first one are not looked at."""
    for value in values:
        if _walk_to(graph, book.with_entry(*key, value)).apart:
            return True
    return False


def _are_tables(book, key, others, value):
    """Whether the value has the pairs of all other values of an entry and of tables for them."""
    if not is_row(value, len(others)) or not all([is_row(pair, 2) for pair in value]):
        return False
    if not all([is_entry(key[0], told) and told == other for (told, _), other in zip(value, others)]):
        return False
    return all([is_table(book, book.with_entry(*key, other), table) for other, table in value])


def _books_with(book, keys):
    """The list of the books that have any possible values in some entries."""
    found = [book]
    for key in keys:
        found = [other.with_entry(*key, value) for other in found for value in book.values_for(*key)]
    return found
