"""The doors of a book, and what another task can be at when one enters by them."""

from twoandabell.base.words import is_number
from twoandabell.book.alone import READY, RUNS
from twoandabell.book.checks import check_book
from twoandabell.errors import InvalidOperation
from twoandabell.waits.sides import OUT, Sides


class Door:
    """A door of a book, with the first side stands at it in numbers: `firsts`, and `runners` of a task that runs on."""

    def __init__(self, book, level, place):
        check_book(book)
        alone = book.told_alone()
        reached = alone.reached()
        # A boolean would be taken for a number.
        if not is_number(level) or (level, place) not in doors_among(book, reached):
            raise InvalidOperation("this is no door")
        asleep = [number for number in reached if number < OUT]
        ready = [number for number in reached if READY <= number < RUNS and _is_ahead(number, level, place)]
        self.level = level
        self.place = place
        self.alone = alone
        self.sides = Sides(alone, level)
        self.asleep = asleep
        self.firsts = [*asleep, OUT, *ready]
        self.runners = [number for number in reached if number >= RUNS and alone.takers[(number - RUNS) >> 2] <= level]

    def bounds(self):
        """The most work of a life at the door, and that of one that runs on at first, each `None` without end."""
        return self.sides.most_of(self.firsts), self.sides.most_of(self.runners)


def doors_among(book, reached):
    """The ascending tuple of the doors of a book, told from the postures that are reached in it."""
    levels = book.levels
    coming = [(level, "back") for level in book.ranks]
    waking = {number >> 2: True for number in reached if number < OUT}
    return tuple(sorted(set(coming + [levels[level].wake[:2] for level in waking])))


def _is_ahead(number, level, place):
    """Whether a ready task is ahead of one that now enters a level at a place."""
    other = (number - READY) >> 2
    return other < level or (other == level and place == "back")
