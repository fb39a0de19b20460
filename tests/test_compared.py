"""The heading "Stage 16": waits of two books compared, and changes by which waits get a bound."""

import random
import unittest
from unittest.mock import patch

from tests.reference import some_book, some_full_book
from tests.samples import BOOKS, FEED, FORTY, LATE, LOAD, ONE, OTHERS, WIDE
from twoandabell.book.books import Book, Level
from twoandabell.errors import InvalidBook, InvalidOperation
from twoandabell.text.books import read_book
from twoandabell.waits.compared import bounding_changes, compared_waits
from twoandabell.waits.lengths import longest_wait, wait_line
from twoandabell.waits.lives import doors

NO_BOOKS = (*OTHERS, *FEED.levels, FEED.levels, LOAD)
SMALL = [*BOOKS, *[some_book(random.Random(seed)) for seed in range(40)]]


def line_book(slope, running):
    """A book at whose door (0, "back") others work so often, and one that runs on at level 1 so often at first."""
    levels = [Level(slope, used=(0, "back"), wake=(0, "back", "new"), way=(0, "back", "new"), lost=(0, "back", "new"))]
    levels.append(Level(running + 1, used=(1, "back"), wake=(1, "back", "new"), way=(1, "back", "new"),
                        lost=(1, "back", "new")) if running else Level.plain(1, 1))
    return Book(*levels, ranks=(0, 1))


class Compared(unittest.TestCase):
    def test_example(self):
        self.assertEqual(compared_waits(FEED, ONE, 0, "back"), ((1, "equal"),))

    def test_by_hand(self):
        lines = {(slope, most): line_book(slope, most) for slope in (1, 2, 3) for most in (0, 1, 2)}
        for (slope, most), book in lines.items():
            self.assertEqual(wait_line(book, 0, "back"), (slope, max(0, most - slope)))
        self.assertEqual(compared_waits(lines[1, 2], lines[2, 0], 0, "back"), ((1, "equal"), (2, "less")))
        self.assertEqual(compared_waits(lines[2, 0], lines[1, 2], 0, "back"), ((1, "equal"), (2, "greater")))
        self.assertEqual(compared_waits(lines[1, 2], lines[1, 0], 0, "back"), ((1, "greater"),))
        self.assertEqual(compared_waits(lines[1, 0], lines[3, 0], 0, "back"), ((1, "less"),))
        self.assertEqual(compared_waits(lines[3, 0], lines[3, 2], 0, "back"), ((1, "equal"),))

    def test_without_a_bound(self):
        # Both, the first one, the second one.
        self.assertEqual(compared_waits(FEED, LATE, 1, "back"), ((1, "equal"),))
        bounded = line_book(2, 0)
        self.assertIsNone(wait_line(FEED, 1, "back"))
        endless = Book(Level.plain(0), ranks=(0,))
        self.assertEqual(compared_waits(endless, bounded, 0, "back"), ((1, "greater"),))
        self.assertEqual(compared_waits(bounded, endless, 0, "back"), ((1, "less"),))
        self.assertEqual(compared_waits(endless, endless, 0, "back"), ((1, "equal"),))

    def test_each_number_of_others(self):
        source = random.Random("compared")
        books = [*SMALL, *[some_full_book(source) for _ in range(20)], *[some_book(source) for _ in range(200)],
                 *[line_book(slope, most) for slope in (1, 2, 3) for most in (0, 1, 2)]]
        lengths = set()
        by_door = {}
        for book in books:
            for door in doors(book):
                by_door.setdefault(door, []).append(book)
        for door, found in by_door.items():
            bounded = [book for book in found if wait_line(book, *door) is not None]
            for _ in range(200):
                book, other = source.choice(bounded or found), source.choice(bounded or found)
                lengths.add(self.check(book, other, door))
                self.check(source.choice(found), other, door)
        self.assertTrue({1, 2} <= lengths)

    def check(self, book, other, door):
        told = compared_waits(book, other, *door)
        self.assertEqual(told[0][0], 1)
        self.assertEqual(list(told), sorted(told))
        for others in (1, 2, 3, 4, 9, 10 ** 6):
            word = [word for start, word in told if start <= others][-1]
            one, two = [10 ** 50 if length is None else length
                        for length in (longest_wait(book, *door, others), longest_wait(other, *door, others))]
            self.assertEqual(word, "less" if one < two else "greater" if one > two else "equal")
        self.assertTrue(all(one[1] != two[1] for one, two in zip(told, told[1:])))
        return len(told)

    def test_lines_that_cross_behind_some_number(self):
        # Not just at a whole number, and at one, by lines put in the place of those of books.
        for line, other, right in (
                ((3, 0), (1, 5), ((1, "less"), (3, "greater"))), ((3, 0), (1, 4), ((1, "less"), (2, "equal"), (3, "greater"))),
                ((1, 7), (2, 0), ((1, "greater"), (7, "equal"), (8, "less"))), ((2, 1), (2, 1), ((1, "equal"),)),
                ((1, 1), (2, 0), ((1, "equal"), (2, "less"))), ((5, 0), (1, 30), ((1, "less"), (8, "greater"))),
                ((1, 30), (5, 0), ((1, "greater"), (8, "less"))), ((0, 3), (1, 0), ((1, "greater"), (3, "equal"), (4, "less"))),
                (None, (1, 0), ((1, "greater"),)), ((9, 9), None, ((1, "less"),)), (None, None, ((1, "equal"),))):
            with patch("twoandabell.waits.compared.line_of", side_effect=[line, other]):
                self.assertEqual(compared_waits(FEED, LATE, 0, "back"), right)

    def test_errors_in_their_order(self):
        for value in NO_BOOKS:
            for arguments in ((value, FEED), (FEED, value), (value, value)):
                with self.assertRaises(InvalidBook):
                    compared_waits(*arguments, None, None)
        # A door of one of them, and of none.
        for book, other in ((FEED, ONE), (ONE, FEED), (ONE, ONE)):
            with self.assertRaises(InvalidOperation):
                compared_waits(book, other, 1, "back")
        for level, place in ((0, "front"), (True, "back"), (False, "back"), (None, None), (FORTY, "back"), ([], {})):
            with self.assertRaises(InvalidOperation):
                compared_waits(FEED, FEED, level, place)

    def test_books_with_other_numbers(self):
        self.assertEqual(compared_waits(FEED, WIDE, 0, "back")[0][0], 1)
        self.assertEqual(compared_waits(Book.of(FEED.levels, (0,)), FEED, 0, "back")[0][0], 1)


class Bounding(unittest.TestCase):
    def test_example(self):
        self.assertEqual(bounding_changes(FEED, 1, "back"), ())

    def test_by_hand(self):
        # A task that has used up its slice goes to the front again.
        book = read_book("ranks 0\nlevel ticks 2, used 0 front, wake 0 back new, way 0 back new, lost 0 back new, takes 0")
        self.assertEqual(bounding_changes(book, 0, "back"), ((("used", 0), (0, "back")),))
        # Without a slice it never ends; with each slice, as `used` leads to the back.
        book = book.with_entry("used", 0, (0, "back")).with_entry("ticks", 0, None)
        self.assertEqual(bounding_changes(book, 0, "back"), ((("ticks", 0), 1), (("ticks", 0), 2), (("ticks", 0), 3)))

    def test_just_those(self):
        found, nones = set(), 0
        for book in SMALL:
            for door in doors(book):
                if wait_line(book, *door) is not None:
                    continue
                right = []
                for key in book.entries():
                    for value in book.values_for(*key):
                        other = book.with_entry(*key, value)
                        if door in doors(other) and wait_line(other, *door) is not None:
                            right.append((key, value))
                told = bounding_changes(book, *door)
                self.assertEqual(told, tuple(right))
                self.assertEqual([key for key, _ in told], sorted(key for key, _ in told))
                found.add((len(book), bool(right)))
                nones += any(value is None for _, value in told)
        self.assertTrue({(1, True), (2, True), (2, False), (3, True), (3, False)} <= found)

    def test_the_door_is_still_one(self):
        # With other values of `wake` nobody comes by this door any more.
        book = read_book("""ranks 0
level ticks 1, used 0 back, wake 0 front new, way 0 back new, lost 0 back new, takes 0""")
        self.assertIn((0, "front"), doors(book))
        self.assertEqual(bounding_changes(book, 0, "front"), ())
        self.assertIsNotNone(wait_line(book.with_entry("wake", 0, (0, "back", "new")), 0, "back"))
        self.assertEqual(bounding_changes(book, 0, "back"), tuple(
            (("wake", 0), (0, "back", rest)) for rest in ("kept", "new")))

    def test_errors_in_their_order(self):
        for book in NO_BOOKS:
            with self.assertRaises(InvalidBook):
                bounding_changes(book, None, None)
        for level, place in ((0, "front"), (2, "back"), (True, "back"), (None, None), ([], {}), (FORTY, "back"), (FEED, 0)):
            with self.assertRaises(InvalidOperation):
                bounding_changes(FEED, level, place)
        for book in (FEED, ONE):
            with self.assertRaises(InvalidOperation):
                bounding_changes(book, 0, "back")


if __name__ == "__main__":
    unittest.main()
