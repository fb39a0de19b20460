"""Levels that are reached, books without some of their levels, and levels that are joined."""

from twoandabell.base.words import is_between
from twoandabell.book.books import Book
from twoandabell.book.checks import check_book, entry_at
from twoandabell.book.states import postures
from twoandabell.errors import InvalidNumber, InvalidOperation
from twoandabell.pair.joints import paper

# The words of the entries of a level that name a level first.
NAMING_WORDS = ("used", "wake", "way", "lost")


def reached(book):
    """The ascending tuple of the levels of all postures that a task can come to."""
    return tuple(sorted(set([posture[1] for posture in postures(book)])))


def counts(book, key):
    """Whether an entry is one of those that can matter."""
    entry_at(book, key)
    word, index = key
    if word == "come":
        return True
    if index not in reached(book):
        return False
    level = book.levels[index]
    if word == "used":
        return level.ticks is not None
    if word == "lost":
        return level.ticks != 1 and level.takes >= 1
    return True


def trimmed(book):
    """The book without the levels that are not reached, as far as it stays alike to what it was."""
    kept = list(reached(book))
    takes = [book.levels[level].takes for level in kept]
    # A bell takes tasks away where `takes` is at least 1, so it must not become 0; with level 0 it does not.
    if not all([many == 0 or kept[0] < many for many in takes]):
        kept = [0, *kept]
    return _with_levels(book, kept)


def without(book, level):
    """The book without a level; what names it names its own level instead."""
    _check_level(book, level, 0)
    # The only level of a book is that of its ranks, too.
    if level in book.ranks:
        raise InvalidOperation("this level can't be left out")
    return _with_levels(book, [index for index in range(len(book)) if index != level])


def joined(book, level):
    """The book in which a level and the next one are one, with the entries of the better one."""
    _check_level(book, level, 1)
    kept = [index for index in range(len(book)) if index != level + 1]
    levels = []
    for index in kept:
        takes = book.levels[index].takes
        renamed = _renamed(book.levels[index], kept, level)
        levels.append(renamed.replaced("takes", takes - 1 if takes > level else takes))
    ranks = [kept.index(level if rank == level + 1 else rank) for rank in book.ranks]
    return Book.of(tuple(levels), tuple(ranks))


def join_paper(book, level):
    """A paper that tells whether a book is alike to itself with a level and the next one joined."""
    return paper(book, joined(book, level))


def _check_level(book, level, behind):
    """Raise an error unless the values are a book and one of its levels, behind which there are so many at least."""
    check_book(book)
    if not is_between(level, 0, len(book) - 1 - behind):
        raise InvalidNumber(level)


def _with_levels(book, kept):
    """The book with some of its levels, which are those of its ranks among others."""
    levels = []
    for index in kept:
        better = [level for level in kept if level < book.levels[index].takes]
        levels.append(_renamed(book.levels[index], kept, index).replaced("takes", len(better)))
    return Book.of(tuple(levels), tuple([kept.index(rank) for rank in book.ranks]))


def _renamed(level, kept, instead):
    """A level with the new numbers of the levels that are kept; what names another one names `instead`."""
    for word in NAMING_WORDS:
        named, *rest = level[word]
        level = level.replaced(word, (kept.index(named if named in kept else instead), *rest))
    return level
