"""Books, loads and wrong values that the tests share."""

from itertools import product

from twoandabell.base.words import is_entry, is_number, is_place, is_rest, is_word
from twoandabell.book.books import Book, Level
from twoandabell.errors import InvalidNumber, UnknownName

FEED = Book(
    Level(1, used=(1, "back"), wake=(0, "back", "new"), way=(0, "back", "new"), lost=(0, "front", "kept"), takes=0),
    Level(2, used=(1, "back"), wake=(0, "back", "new"), way=(1, "back", "new"), lost=(1, "front", "kept"), takes=1),
    ranks=(0, 1),
)
LATE = Book(
    FEED.levels[0],
    Level(2, used=(1, "back"), wake=(0, "back", "new"), way=(1, "back", "new"), lost=(1, "back", "kept"), takes=1),
    ranks=(0, 1),
)
ONE = Book(
    Level(1, used=(0, "back"), wake=(0, "back", "new"), way=(0, "back", "new"), lost=(0, "back", "new"), takes=0),
    ranks=(0, 0),
)
# Three levels, of which the last one has no slice, with rests that are kept everywhere.
WIDE = Book(
    Level(2, used=(1, "front"), wake=(0, "front", "kept"), way=(2, "front", "kept"), lost=(2, "back", "kept")),
    Level(3, used=(2, "back"), wake=(0, "back", "kept"), way=(0, "front", "kept"), lost=(1, "front", "new"), takes=1),
    Level(used=(0, "back"), wake=(1, "front", "kept"), way=(1, "back", "kept"), lost=(2, "back", "kept"), takes=2),
    ranks=(0, 2, 1),
)
BOOKS = (FEED, LATE, ONE, WIDE)
LOAD = (((("come", 1), ("come", 1)), "on"), ((("come", 0),), "end"), ((), "on"))

FORTY = 10 ** 40 - 1
FORTY_ONE = 10 ** 40
HUNDRED = 10 ** 99


def nested(depth):
    """Tuples, lists and dicts nested so deep."""
    value = 0
    for at in range(depth):
        value = ((value,), [value], {0: value})[at % 3]
    return value


# Values of every kind of [0.4], none of which is a book, a level, a load or a word of anything.
OTHERS = (
    True, False, None, 0, 1, 2, -1, 4, FORTY, FORTY_ONE, HUNDRED, -FORTY, -FORTY_ONE, -HUNDRED,
    "", " ", "0", "On", "back ", "x" * 4000, "\n" * 4000, "level", "ranks 0", "none",
    (0,), (0, 0), (None, None), ("used",), ("used", 0, 1), ((), ()), (((), ()), ()), (0, "back", "new", 0),
    [], [0], [0, "back"], ["used", 0], {}, {"used": 0}, {0: 1}, {"ticks": [1]}, nested(10),
    InvalidNumber(1), UnknownName("x"), ValueError("x"),
)


def entry_values():
    """Values that have the form of an entry, or nearly."""
    levels = (0, 1, 2, 3, -1, True, None, "0", FORTY)
    pairs = [pair for pair in product(levels, ("back", "front", "new", 0, None))]
    triples = [triple for triple in product(levels, ("back", "front", "kept"), ("kept", "new", "back", True))]
    return [*OTHERS, 3, *pairs, *triples, *[list(pair) for pair in pairs]]


def checks():
    """The functions that tell whether a value is a number, a place, a rest or a word."""
    return (is_number, is_place, is_rest, is_word, lambda value: is_entry("ticks", value))
