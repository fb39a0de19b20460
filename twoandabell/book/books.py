"""Levels and books."""

from twoandabell.base.words import ASCENDING_LEVEL_WORDS, ENTRY_WORDS, LEVEL_WORDS, MAX_LEVELS, MAX_RANKS, MAX_SLICE
from twoandabell.base.words import PLACES, RESTS, is_between, is_entry, is_row
from twoandabell.book.alone import Alone
from twoandabell.errors import InvalidBook, InvalidLevel, InvalidNumber, InvalidOperation, UnknownName


class Level:
    """The entries of a level, each of the right form; a level never changes."""

    def __init__(self, ticks=None, *, used, wake, way, lost, takes=0):
        entries = {"ticks": ticks, "used": used, "wake": wake, "way": way, "lost": lost, "takes": takes}
        for word in LEVEL_WORDS:
            if not is_entry(word, entries[word]):
                raise InvalidLevel(f"the entry {word} has not its form")
        self._entries = entries

    @classmethod
    def plain(cls, index, ticks=None):
        """The level with this number from which nothing leads to another one."""
        if not is_between(index, 0, MAX_LEVELS - 1):
            raise InvalidNumber(index)
        anew = (index, "back", "new")
        return cls(ticks, used=(index, "back"), wake=anew, way=anew, lost=(index, "front", "kept"), takes=index)

    @property
    def ticks(self):
        """The slice, or `None`."""
        return self._entries["ticks"]

    @property
    def used(self):
        """Where a task enters that has used up its slice."""
        return self._entries["used"]

    @property
    def wake(self):
        """Where and how a task enters that wakes."""
        return self._entries["wake"]

    @property
    def way(self):
        """Where and how a task enters that gives way."""
        return self._entries["way"]

    @property
    def lost(self):
        """Where and how a task enters that is taken away."""
        return self._entries["lost"]

    @property
    def takes(self):
        """Ready tasks of levels less than this one take a running task away."""
        return self._entries["takes"]

    def replaced(self, word, value):
        """The level with another entry."""
        if word not in LEVEL_WORDS:
            raise UnknownName(word)
        entries = dict(self._entries)
        entries[word] = value
        return Level(**entries)

    def __getitem__(self, at):
        if at not in LEVEL_WORDS:
            raise UnknownName(at)
        return self._entries[at]

    def __contains__(self, x):
        return x in LEVEL_WORDS

    def __iter__(self):
        raise TypeError("a level can't be iterated over")

    def __eq__(self, other):
        return isinstance(other, Level) and self._entries == other._entries

    def __str__(self):
        return ", ".join([_entry_text(word, self._entries[word]) for word in LEVEL_WORDS])


class Book:
    """One to three levels, the best one first, and the levels of one to three ranks; a book never changes."""

    def __init__(self, *levels, ranks):
        if not _are_levels(levels):
            raise InvalidBook("these are not the levels of a book")
        if not _are_ranks(ranks, len(levels)):
            raise InvalidBook("these are not the levels of its ranks")
        self._levels = levels
        self._ranks = ranks
        self._alone = None

    @classmethod
    def of(cls, levels, ranks):
        """The book with the levels of a tuple."""
        if not isinstance(levels, tuple):
            raise InvalidBook("the levels are no tuple")
        return Book(*levels, ranks=ranks)

    @property
    def levels(self):
        """The tuple of the levels."""
        return self._levels

    @property
    def ranks(self):
        """The tuple of the levels of the ranks."""
        return self._ranks

    @property
    def is_open(self):
        """Whether each level is that of some rank."""
        return all([index in self._ranks for index in range(len(self._levels))])

    def told_alone(self):
        """What one task alone comes to by the book; this is kept, for it is asked for again and again."""
        if self._alone is None:
            self._alone = Alone(self._levels, self._ranks)
        return self._alone

    def entries(self):
        """The ascending tuple of the keys of all entries."""
        return tuple([(word, index) for word in ENTRY_WORDS for index in range(self._many(word))])

    def with_entry(self, word, index, value):
        """The book with another entry."""
        self._check_key(word, index)
        if not is_entry(word, value):
            raise InvalidBook(f"the entry {word} has not its form")
        if word == "come":
            return Book.of(self._levels, _exchanged(self._ranks, index, value))
        level = self._levels[index].replaced(word, value)
        return Book.of(_exchanged(self._levels, index, level), self._ranks)

    def values_for(self, word, index):
        """The tuple of all values with which the book with this entry is a book, `None` as the last one."""
        self._check_key(word, index)
        if word == "ticks":
            return tuple(range(1, MAX_SLICE + 1)) + (None,)
        if word == "takes":
            return tuple(range(index + 1))
        many = len(self._levels)
        if word == "come":
            return tuple(range(many))
        if word == "used":
            return tuple([(level, place) for level in range(many) for place in PLACES])
        # `lost` is the one entry that never leads to a better level.
        best = index if word == "lost" else 0
        return tuple([(level, place, rest) for level in range(best, many) for place in PLACES for rest in RESTS])

    def __getitem__(self, at):
        if not is_row(at, 2):
            raise InvalidOperation("a key is a pair of a word and a number")
        word, index = at
        self._check_key(word, index)
        return self._ranks[index] if word == "come" else self._levels[index][word]

    def __contains__(self, x):
        return is_row(x, 2) and x[0] in ENTRY_WORDS and is_between(x[1], 0, self._many(x[0]) - 1)

    def __len__(self):
        return len(self._levels)

    def __iter__(self):
        return iter(self._levels)

    def __sub__(self, other):
        if not isinstance(other, Book):
            raise InvalidOperation("this is no book")
        if len(self._levels) != len(other._levels) or len(self._ranks) != len(other._ranks):
            raise InvalidOperation("the books have other numbers of levels or ranks")
        found = []
        if self._ranks != other._ranks:
            found = [("come", rank) for rank, level in enumerate(self._ranks) if level != other._ranks[rank]]
        # Most levels are the same in both books: only in the others each entry needs to be looked at.
        changed = [index for index, level in enumerate(self._levels) if level._entries != other._levels[index]._entries]
        if changed:
            found = found + _level_differences(self._levels, other._levels, changed)
        return tuple(found)

    def __eq__(self, other):
        return isinstance(other, Book) and self._levels == other._levels and self._ranks == other._ranks

    def __str__(self):
        return f"book of {len(self._levels)} levels, {len(self._ranks)} ranks"

    def _many(self, word):
        """The number of entries with this word."""
        return len(self._ranks) if word == "come" else len(self._levels)

    def _check_key(self, word, index):
        if word not in ENTRY_WORDS:
            raise UnknownName(word)
        if not is_between(index, 0, self._many(word) - 1):
            raise InvalidNumber(index)


def _level_differences(levels, others, changed):
    """The ascending list of the keys of the entries in which some levels differ, given by their numbers."""
    pairs = [(index, levels[index]._entries, others[index]._entries) for index in changed]
    return [(word, index) for word in ASCENDING_LEVEL_WORDS for index, one, two in pairs if one[word] != two[word]]


def _entry_text(word, value):
    if value is None:
        return f"{word} none"
    if isinstance(value, tuple):
        parts = " ".join([str(part) for part in value])
        return f"{word} {parts}"
    return f"{word} {value}"


def _are_levels(levels):
    """Whether a tuple holds the levels of a book."""
    if not 1 <= len(levels) <= MAX_LEVELS:
        return False
    if not all([isinstance(level, Level) for level in levels]):
        return False
    return all([_fits(level, index, len(levels)) for index, level in enumerate(levels)])


def _fits(level, index, many):
    """Whether a level can have this number among so many levels."""
    named = [level.used[0], level.wake[0], level.way[0], level.lost[0]]
    return max(named) < many and level.lost[0] >= index and level.takes <= index


def _are_ranks(value, many):
    """Whether the value can tell the levels of the ranks of a book of so many levels."""
    if not isinstance(value, tuple) or not 1 <= len(value) <= MAX_RANKS:
        return False
    return all([is_between(level, 0, many - 1) for level in value])


def _exchanged(row, index, value):
    """A tuple with another value at this index."""
    return row[:index] + (value,) + row[index + 1:]
