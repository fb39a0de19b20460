"""Calls that are asked for again and again stay quick, beside a loop that does nothing but count."""

import time
import unittest

from tests.samples import FEED, LATE
from twoandabell.book.books import Book, Level
from twoandabell.book.states import postures
from twoandabell.change.entries import are_free, idle_keys, matters
from twoandabell.pair.cuts import cut, kept_ticks, two_of
from twoandabell.pair.joints import Reach, is_table
from twoandabell.run.loads import chart, is_parting
from twoandabell.waits.lives import life_paper, most_work
from twoandabell.waits.ranks import lead

# Three levels with slices of three, which have as many stands as any.
FULL = Book(*[Level(3, used=(min(index + 1, 2), "back"), wake=(0, "back", "new"), way=(index, "back", "new"),
                    lost=(index, "front", "kept"), takes=index) for index in range(3)], ranks=(0, 1, 2))
LONG = tuple(((("come", index % 2),), "on") for index in range(60)) + (((), "on"),) * 339
# FEED and LATE part at its last tick, of eight tasks.
PARTED = (*[((("come", 0),), "end") for _ in range(5)], *[((), "on")] * 10, ((("come", 1), ("come", 1)), "on"),
          *[((), "way"), ((), "on")] * 6, ((("come", 0),), "end"), ((), "on"))


def counted():
    """A loop against which calls are measured, so that a slower machine makes no difference."""
    total = 0
    for index in range(10000):
        total += index & 7
    return total


def time_of(call, many):
    """The least time of some tries to make a call so many times, for one call."""
    best = 10 ** 9
    for _ in range(7):
        start = time.perf_counter()
        for _ in range(many):
            call()
        best = min(best, (time.perf_counter() - start) / many)
    return best


class Quick(unittest.TestCase):
    def assert_quick(self, call, many, limit):
        """One call takes less time than the loop does so many times."""
        found = time_of(call, many) / time_of(counted, 3)
        self.assertLess(found, limit)

    def test_loads(self):
        self.assertEqual(len(LONG), 399)
        self.assertIs(is_parting(FEED, LATE, PARTED), True)
        self.assert_quick(lambda: chart(FEED, LONG), 10, 1.6)
        self.assert_quick(lambda: is_parting(FEED, LATE, PARTED), 100, 0.21)
        self.assert_quick(lambda: [function(FEED, LATE, PARTED) for function in (two_of, cut, kept_ticks)], 50, 0.95)

    def test_joint_stands(self):
        self.assert_quick(lambda: Reach(FULL, FULL), 3, 8)
        self.assert_quick(lambda: Reach(FEED, FEED), 20, 1.2)
        self.assert_quick(lambda: matters(FULL, ("wake", 1)), 3, 11)
        self.assert_quick(lambda: idle_keys(FULL), 1, 170)
        self.assert_quick(lambda: are_free(FEED, (("wake", 1), ("lost", 1))), 2, 20)

    def test_tables(self):
        for book, many, limit in ((FULL, 2, 9.5), (FEED, 20, 1.5)):
            table = Reach(book, book).table
            self.assert_quick(lambda: is_table(book, book, table), many, limit)
            self.assert_quick(lambda: is_table(book, book, table[:-1]), many, limit)

    def test_lives(self):
        self.assert_quick(lambda: postures(FULL), 200, 0.065)
        for level, limit in ((0, 0.2), (1, 0.45), (2, 0.8)):
            for runs in (False, True):
                self.assert_quick(lambda: most_work(FULL, level, "back", runs=runs), 50, limit)
                self.assert_quick(lambda: life_paper(FULL, level, "back", runs=runs), 50, limit)

    def test_ranks(self):
        self.assert_quick(lambda: lead(FULL, 2, 1), 3, 9)


if __name__ == "__main__":
    unittest.main()
