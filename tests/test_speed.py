"""Calls that are asked for again and again do not do much: the lines that they run are counted, not the time."""

import sys
import unittest

from tests.samples import FEED, LATE
from twoandabell.book.books import Book, Level
from twoandabell.book.states import postures
from twoandabell.change.entries import are_free, idle_keys, matters
from twoandabell.pair.cuts import cut, kept_ticks, two_of
from twoandabell.pair.joints import Reach, is_table
from twoandabell.run.loads import chart, is_parting
from twoandabell.waits.lives import life_paper, most_work
from twoandabell.waits.ranks import lead

# A load of 399 ticks, and one of eight tasks at whose last tick FEED and LATE part.
LONG = tuple(((("come", index % 2),), "on") for index in range(60)) + (((), "on"),) * 339
PARTED = (*[((("come", 0),), "end") for _ in range(5)], *[((), "on")] * 10, ((("come", 1), ("come", 1)), "on"),
          *[((), "way"), ((), "on")] * 6, ((("come", 0),), "end"), ((), "on"))


def full_book():
    """A new book of three levels with slices of three, which has as many stands as any."""
    return Book(*[Level(3, used=(min(index + 1, 2), "back"), wake=(0, "back", "new"), way=(index, "back", "new"),
                        lost=(index, "front", "kept"), takes=index) for index in range(3)], ranks=(0, 1, 2))


def feed_book():
    """A new book that is equal to FEED, so that nothing of it has been told before."""
    return Book.of(FEED.levels, FEED.ranks)


def lines_of(call):
    """The number of the lines that Python runs in a call."""
    many = 0

    def count(frame, event, argument):
        nonlocal many
        many += event == "line"
        return count

    before = sys.gettrace()
    sys.settrace(lambda frame, event, argument: count)
    try:
        call()
    finally:
        sys.settrace(before)
    return many


class Quick(unittest.TestCase):
    def assert_few(self, call, limit):
        found = lines_of(call)
        self.assertLess(found, limit)
        # What is counted is what is done.
        self.assertGreater(found, limit // 10)

    def test_loads(self):
        self.assertEqual((len(LONG), len(PARTED)), (399, 30))
        self.assertIs(is_parting(FEED, LATE, PARTED), True)
        self.assert_few(lambda: chart(feed_book(), LONG), 20000)
        self.assert_few(lambda: is_parting(feed_book(), LATE, PARTED), 2900)
        for function in (two_of, cut, kept_ticks):
            self.assert_few(lambda: function(feed_book(), LATE, PARTED), 3600)

    def test_joint_stands(self):
        book = full_book()
        self.assert_few(lambda: Reach(book, book), 60000)
        self.assert_few(lambda: Reach(book, full_book()), 60000)
        self.assert_few(lambda: Reach(feed_book(), feed_book()), 10000)
        self.assert_few(lambda: matters(full_book(), ("wake", 1)), 80000)
        self.assert_few(lambda: idle_keys(full_book()), 1300000)
        self.assert_few(lambda: are_free(feed_book(), (("wake", 1), ("lost", 1))), 150000)

    def test_tables(self):
        for make, limit in ((full_book, 90000), (feed_book, 14000)):
            table = Reach(make(), make()).table
            for value in (table, table[:-1]):
                self.assert_few(lambda: is_table(make(), make(), value), limit)
            self.assertLess(lines_of(lambda: is_table(make(), make(), list(table))), 1000)

    def test_lives(self):
        self.assert_few(lambda: postures(full_book()), 1100)
        for level, limit in ((0, 2900), (1, 3700), (2, 4600)):
            for runs in (False, True):
                for function in (most_work, life_paper):
                    self.assert_few(lambda: function(full_book(), level, "back", runs=runs), limit)

    def test_ranks(self):
        self.assert_few(lambda: lead(full_book(), 2, 1), 80000)


if __name__ == "__main__":
    unittest.main()
