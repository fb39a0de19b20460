"""[0.7] and stage 2: class Book."""

import random
import timeit
import unittest

from tests.reference import some_book
from tests.samples import BOOKS, FEED, FORTY_ONE, HUNDRED, LATE, ONE, OTHERS, WIDE, entry_values
from twoandabell.book.books import Book, Level
from twoandabell.errors import InvalidBook, InvalidNumber, InvalidOperation, UnknownName

ZERO = Level.plain(0, 1)
FIRST = Level.plain(1, 2)
SECOND = Level.plain(2)
WORDS = ("come", "lost", "takes", "ticks", "used", "wake", "way")


def is_made(*levels, ranks):
    """Whether there is such a book, by both ways to make it."""
    made = []
    for make in (lambda: Book(*levels, ranks=ranks), lambda: Book.of(levels, ranks)):
        try:
            made.append(make())
        except InvalidBook:
            made.append(None)
    if (made[0] is None) != (made[1] is None):
        raise AssertionError("both ways make the same books")
    return made[0] is not None


class Making(unittest.TestCase):
    def test_one_to_three(self):
        levels = (ZERO, FIRST, SECOND)
        for many in (1, 2, 3):
            for ranks in ((0,), (0, 0), (many - 1, 0, many - 1)):
                book = Book(*levels[:many], ranks=ranks)
                self.assertEqual(book, Book.of(levels[:many], ranks))
                self.assertEqual((book.levels, book.ranks, len(book)), (levels[:many], ranks, many))
                self.assertIsInstance(book.levels, tuple)
                self.assertIsInstance(book.ranks, tuple)

    def test_too_few_and_too_many(self):
        self.assertFalse(is_made(ranks=(0,)))
        self.assertFalse(is_made(ranks=()))
        self.assertFalse(is_made(ZERO, ranks=()))
        self.assertTrue(is_made(ZERO, ranks=(0, 0, 0)))
        self.assertFalse(is_made(ZERO, ranks=(0, 0, 0, 0)))
        self.assertFalse(is_made(ZERO, ZERO, ZERO, ZERO, ranks=(0,)))
        self.assertFalse(is_made(*[ZERO] * 40, ranks=(0,)))

    def test_ranks(self):
        for level in (0, 1):
            self.assertTrue(is_made(ZERO, FIRST, ranks=(level,)))
        for level in (2, 3, -1, True, False, None, "0", (0,), FORTY_ONE, HUNDRED, FEED):
            self.assertFalse(is_made(ZERO, FIRST, ranks=(level,)))
            self.assertFalse(is_made(ZERO, FIRST, ranks=(0, 1, level)))
        for ranks in (*OTHERS, [0], [0, 1], {0: 0}, "0", range(1), FEED, ZERO):
            if ranks != (0,) and ranks != (0, 0):
                self.assertFalse(is_made(ZERO, FIRST, ranks=ranks), ranks)

    def test_values_that_are_no_levels(self):
        for value in (*OTHERS, FEED, str(ZERO), (ZERO,)):
            self.assertFalse(is_made(value, ranks=(0,)))
            self.assertFalse(is_made(ZERO, value, ranks=(0,)))
            self.assertFalse(is_made(value, ZERO, FIRST, ranks=(0,)))

    def test_levels_that_are_no_tuple(self):
        for value in (*OTHERS, [ZERO], [ZERO, FIRST], {0: ZERO}, ZERO, FEED, iter((ZERO,))):
            with self.assertRaises(InvalidBook):
                Book.of(value, (0,))

    def test_levels_that_are_not_there(self):
        for word, rest in (("used", ("back",)), ("wake", ("back", "new")), ("way", ("front", "kept")),
                           ("lost", ("back", "kept"))):
            for many in (1, 2, 3):
                levels = [ZERO, FIRST, SECOND][:many]
                for index in range(many):
                    for target in range(3):
                        changed = list(levels)
                        changed[index] = levels[index].replaced(word, (target, *rest))
                        right = target < many and not (word == "lost" and target < index)
                        self.assertEqual(is_made(*changed, ranks=(0,)), right, (word, many, index, target))

    def test_takes(self):
        for many in (1, 2, 3):
            for index in range(many):
                for takes in range(3):
                    levels = [ZERO, FIRST, SECOND][:many]
                    levels[index] = levels[index].replaced("takes", takes)
                    self.assertEqual(is_made(*levels, ranks=(0,)), takes <= index)

    def test_ranks_by_keyword_only(self):
        with self.assertRaises(TypeError):
            Book(ZERO)


class Reading(unittest.TestCase):
    def test_examples(self):
        self.assertEqual(
            [FEED["used", 0], LATE - FEED, FEED.is_open, ONE.is_open, len(ONE), ("takes", 2) in FEED],
            [(1, "back"), (("lost", 1),), True, True, 1, False])
        self.assertEqual(
            [FEED.values_for("takes", 1), FEED.values_for("used", 1)],
            [(0, 1), ((0, "back"), (0, "front"), (1, "back"), (1, "front"))])
        with self.assertRaises(InvalidBook):
            FEED.with_entry("lost", 1, (0, "front", "kept"))
        self.assertEqual(FEED.with_entry("lost", 1, (1, "back", "kept")), LATE)

    def test_iteration(self):
        for book in BOOKS:
            self.assertEqual(tuple(book), book.levels)
            self.assertEqual([level for level in book], list(book.levels))
            self.assertEqual(len(book), len(book.levels))

    def test_open(self):
        self.assertIs(Book(ZERO, FIRST, ranks=(1, 0)).is_open, True)
        self.assertIs(Book(ZERO, FIRST, ranks=(0, 0)).is_open, False)
        self.assertIs(Book(ZERO, FIRST, ranks=(1,)).is_open, False)
        self.assertIs(Book(ZERO, FIRST, SECOND, ranks=(0, 2)).is_open, False)
        self.assertIs(Book(ZERO, FIRST, SECOND, ranks=(2, 0, 1)).is_open, True)
        self.assertIs(Book(ZERO, ranks=(0, 0, 0)).is_open, True)

    def test_keys(self):
        for book in BOOKS:
            levels, ranks = len(book.levels), len(book.ranks)
            keys = [(word, index) for word in WORDS for index in range(ranks if word == "come" else levels)]
            self.assertEqual(book.entries(), tuple(sorted(keys)))
            for word in WORDS:
                for index in range(4):
                    self.assertIs((word, index) in book, (word, index) in keys)
            for word, index in keys:
                right = book.ranks[index] if word == "come" else book.levels[index][word]
                self.assertEqual(book[word, index], right)
        self.assertEqual(ONE.entries(), (
            ("come", 0), ("come", 1), ("lost", 0), ("takes", 0), ("ticks", 0), ("used", 0), ("wake", 0), ("way", 0)))

    def test_in_with_every_value(self):
        for value in (*OTHERS, *BOOKS, ZERO, "used", ("used",), ["used", 0], ("used", 0, 0), ("used", True),
                      ("used", -1), ("used", 2), ("used", None), ("Used", 0), (0, "used"), ("come", 2), ("on", 0),
                      ([], 0), ({}, []), (ZERO, FEED), ("used", HUNDRED), ("used", "0"), (None, None)):
            self.assertIs(value in FEED, False)

    def test_errors_of_entries(self):
        no_pairs = [value for value in (*OTHERS, FEED, ZERO, "us", ["used", 0]) if not (
            type(value) is tuple and len(value) == 2)]
        for key in no_pairs:
            with self.assertRaises(InvalidOperation):
                FEED[key]
        for word in (*OTHERS, FEED, ZERO, "Used", "on", "level", ("used",), ["used"]):
            for index in (0, 9, None):
                with self.assertRaises(UnknownName) as caught:
                    FEED[word, index]
                self.assertIs(caught.exception.word, word)
                with self.assertRaises(UnknownName) as caught:
                    FEED.values_for(word, index)
                self.assertIs(caught.exception.word, word)
                with self.assertRaises(UnknownName) as caught:
                    FEED.with_entry(word, index, None)
                self.assertIs(caught.exception.word, word)
        for word in WORDS:
            for index in (*OTHERS, FEED, ZERO, 3):
                if type(index) is int and index in (0, 1):
                    continue
                with self.assertRaises(InvalidNumber) as caught:
                    FEED[word, index]
                self.assertIs(caught.exception.number, index)
                with self.assertRaises(InvalidNumber) as caught:
                    FEED.values_for(word, index)
                self.assertIs(caught.exception.number, index)
                with self.assertRaises(InvalidNumber) as caught:
                    FEED.with_entry(word, index, [])
                self.assertIs(caught.exception.number, index)

    def test_numbers_of_levels_and_of_ranks(self):
        # WIDE without a rank has other numbers of levels than of ranks.
        book = Book.of(WIDE.levels, (0, 1))
        self.assertEqual(book["ticks", 2], None)
        with self.assertRaises(InvalidNumber):
            book["come", 2]
        self.assertEqual(ONE["come", 1], 0)
        with self.assertRaises(InvalidNumber):
            ONE["used", 1]


class Changing(unittest.TestCase):
    def test_values_for(self):
        self.assertEqual(WIDE.values_for("ticks", 0), (1, 2, 3, None))
        self.assertEqual(WIDE.values_for("takes", 2), (0, 1, 2))
        self.assertEqual(ONE.values_for("takes", 0), (0,))
        self.assertEqual(WIDE.values_for("come", 0), (0, 1, 2))
        self.assertEqual(ONE.values_for("come", 1), (0,))
        self.assertEqual(ONE.values_for("used", 0), ((0, "back"), (0, "front")))
        self.assertEqual(WIDE.values_for("lost", 2), (
            (2, "back", "kept"), (2, "back", "new"), (2, "front", "kept"), (2, "front", "new")))
        self.assertEqual(len(WIDE.values_for("lost", 1)), 8)
        self.assertEqual(len(WIDE.values_for("wake", 1)), 12)
        self.assertEqual(FEED.values_for("way", 0), FEED.values_for("wake", 1))

    def test_with_entry_gives_a_book_for_just_these_values(self):
        for book in BOOKS:
            for word, index in book.entries():
                values = book.values_for(word, index)
                numbers = [value for value in values if value is not None]
                self.assertEqual(list(numbers), sorted(set(numbers)))
                self.assertNotIn(None, values[:-1])
                self.assertEqual(values[-1] is None, word == "ticks")
                self.assertIn(book[word, index], values)
                for value in values:
                    self.assert_changed(book, word, index, value)
                for value in (*entry_values(), FEED, ZERO):
                    if not any(value == right and repr(value) == repr(right) for right in values):
                        with self.assertRaises(InvalidBook):
                            book.with_entry(word, index, value)

    def assert_changed(self, book, word, index, value):
        before = [book[key] for key in book.entries()]
        other = book.with_entry(word, index, value)
        self.assertEqual(other[word, index], value)
        changed = ((word, index),) if value != book[word, index] else ()
        self.assertEqual(other - book, changed)
        self.assertEqual(book - other, changed)
        self.assertEqual(other == book, changed == ())
        self.assertEqual([book[key] for key in book.entries()], before)

    def test_differences(self):
        self.assertEqual(FEED - FEED, ())
        other = FEED.with_entry("way", 0, (1, "back", "new")).with_entry("come", 1, 0).with_entry("ticks", 1, None)
        self.assertEqual(FEED - other, (("come", 1), ("ticks", 1), ("way", 0)))
        self.assertEqual(other - FEED, (("come", 1), ("ticks", 1), ("way", 0)))
        self.assertEqual(
            Book(ZERO, FIRST, ranks=(1, 0)) - FEED, (("come", 0), ("come", 1), ("used", 0), ("wake", 1)))

    def test_differences_of_many_books(self):
        source = random.Random("differences")
        for _ in range(300):
            book = some_book(source)
            other = book
            for _ in range(source.choice((0, 1, 2, 5, 30))):
                key = source.choice(book.entries())
                other = other.with_entry(*key, source.choice(book.values_for(*key)))
            right = tuple(key for key in book.entries() if book[key] != other[key])
            self.assertEqual(book - other, right)
            self.assertEqual(other - book, right)
            again = Book(*[level.replaced("ticks", level.ticks) for level in book], ranks=tuple(list(book.ranks)))
            self.assertEqual(again - other, right)

    def test_differences_do_not_take_longer_than_changes(self):
        wide = Book(Level.plain(0, 2), Level.plain(1, 2), Level.plain(2), ranks=(0, 1, 2))
        again = Book(*wide.levels, ranks=(0, 0, 0))
        change = min(timeit.repeat(lambda: wide.with_entry("used", 1, (2, "back")), number=500, repeat=7))
        for other in (again, WIDE, wide.with_entry("used", 1, (2, "back"))):
            self.assertLess(min(timeit.repeat(lambda: wide - other, number=500, repeat=7)), change)

    def test_differences_of_what_is_no_such_book(self):
        fewer = Book.of(FEED.levels, (0,))
        for value in (*OTHERS, ZERO, ONE, WIDE, fewer, FEED.entries()):
            with self.assertRaises(InvalidOperation):
                FEED - value

    def test_equality(self):
        again = Book(*[level.replaced("takes", level.takes) for level in FEED], ranks=(0, 1))
        self.assertTrue(again == FEED)
        self.assertFalse(again != FEED)
        self.assertFalse(FEED == Book.of(FEED.levels, (1, 0)))
        self.assertFalse(FEED == Book.of(FEED.levels, (0,)))
        for value in (*OTHERS, LATE, ONE, WIDE, ZERO, FEED.levels, str(FEED)):
            self.assertFalse(FEED == value)
            self.assertFalse(value == FEED)
            self.assertTrue(FEED != value)

    def test_text(self):
        self.assertEqual(str(FEED), "book of 2 levels, 2 ranks")
        self.assertEqual(str(WIDE), "book of 3 levels, 3 ranks")
        self.assertEqual(str(Book(ZERO, ranks=(0,))), "book of 1 levels, 1 ranks")

    def test_a_book_never_changes(self):
        book = Book.of(FEED.levels, FEED.ranks)
        for name, value in (("levels", ()), ("ranks", ()), ("is_open", False)):
            with self.assertRaises(AttributeError):
                setattr(book, name, value)
        with self.assertRaises(TypeError):
            book["used", 0] = (0, "back")
        self.assertEqual(book, FEED)


if __name__ == "__main__":
    unittest.main()
