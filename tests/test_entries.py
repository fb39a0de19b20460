"""[11.1]: entries that matter, entries that do not, and those that matter only together."""

import random
import unittest

from tests.reference import some_book, some_full_book
from tests.samples import BOOKS, FEED, FORTY, LATE, LOAD, ONE, OTHERS, WIDE
from twoandabell.change.entries import are_free, entry_paper, idle_keys, is_entry_paper, matters
from twoandabell.errors import InvalidBook, InvalidNumber, InvalidOperation, TooMany, UnknownName
from twoandabell.pair.joints import Reach, alike, is_table, parting_load
from twoandabell.run.loads import is_parting
from twoandabell.text.books import read_book

NO_BOOKS = (*OTHERS, *FEED.levels, FEED.levels, LOAD)
FUNCTIONS = (matters, entry_paper, lambda book, key: is_entry_paper(book, key, None))
# Without a slice, so that it plays no role where its use would lead.
FREE = read_book("ranks 0\nlevel ticks none, used 0 front, wake 0 back kept, way 0 back new, lost 0 back kept, takes 0")
SMALL = (FEED, LATE, ONE, FREE, *[some_book(random.Random(seed)) for seed in (2, 3, 5)])


def others_of(book, key):
    return [value for value in book.values_for(*key) if value != book[key]]


def correct_paper(book, key):
    """A paper by the letter of [11.1], made of whether books are alike."""
    tables = []
    for value in others_of(book, key):
        other = book.with_entry(*key, value)
        if not alike(book, other):
            return ("matters", value, parting_load(book, other))
        tables.append((value, Reach(book, other).table))
    return ("idle", tuple(tables))


class Mattering(unittest.TestCase):
    def test_examples(self):
        self.assertEqual(
            [matters(FEED, ("lost", 0)), matters(FEED, ("lost", 1)), entry_paper(FEED, ("takes", 0)), idle_keys(ONE)],
            [False, True, ("idle", ()), (("come", 0), ("come", 1), ("lost", 0), ("takes", 0))])

    def test_each_entry(self):
        for book in (*SMALL, WIDE):
            idle = []
            for key in book.entries():
                paper = entry_paper(book, key)
                self.assertEqual(paper[0], correct_paper(book, key)[0])
                self.assertIs(matters(book, key), paper[0] == "matters")
                self.assertIs(is_entry_paper(book, key, paper), True)
                if paper[0] == "idle":
                    idle.append(key)
                    self.assertEqual([value for value, _ in paper[1]], others_of(book, key))
                    for value, table in paper[1]:
                        self.assertTrue(is_table(book, book.with_entry(*key, value), table))
                else:
                    self.assertIn(paper[1], others_of(book, key))
                    self.assertTrue(is_parting(book, book.with_entry(*key, paper[1]), paper[2]))
            self.assertEqual(idle_keys(book), tuple(idle))

    def test_levels_of_one_and_two_and_three(self):
        self.assertEqual({len(book) for book in (*SMALL, WIDE)}, {1, 2, 3})

    def test_by_hand(self):
        self.assertEqual(idle_keys(FEED), (("lost", 0), ("takes", 0)))
        self.assertIn(("used", 0), idle_keys(FREE))
        self.assertIs(matters(FEED, ("come", 0)), True)
        word, value, load = entry_paper(FEED, ("come", 0))
        self.assertEqual((word, value, len(load)), ("matters", 1, 1))
        self.assertIs(is_entry_paper(FEED, ("come", 0), ("matters", 1, (((("come", 1), ("come", 0)), "on"),))), True)


class Papers(unittest.TestCase):
    def test_with_any_parting_load(self):
        longer = (((("come", 0),), "on"), ((), "on"), ((), "end")) + LOAD
        value = (1, "back", "kept")
        for load in (LOAD, longer):
            self.assertIs(is_entry_paper(FEED, ("lost", 1), ("matters", value, load)), True)
        for load in (LOAD[:2], LOAD + (((), "on"),), None, (), list(LOAD)):
            self.assertIs(is_entry_paper(FEED, ("lost", 1), ("matters", value, load)), False)
        # A load at which the book of another value parts, and the value that the book has.
        self.assertIs(is_entry_paper(FEED, ("lost", 1), ("matters", (1, "front", "new"), LOAD)), False)
        self.assertIs(is_entry_paper(FEED, ("lost", 1), ("matters", FEED["lost", 1], LOAD)), False)

    def test_with_one_part_changed(self):
        for book in SMALL:
            for key in book.entries():
                paper = correct_paper(book, key)
                if paper[0] == "idle":
                    self.assert_idle_refused(book, key, paper[1])
                    self.assert_refused(book, key, ("matters", *(paper[1][0] if paper[1] else (None, None))))
                else:
                    self.assert_refused(book, key, ("idle", ()), ("idle", (paper[1:],)), (*paper, None), list(paper),
                                        ("idle", *paper[1:]), ("Matters", *paper[1:]), paper[:2], paper[1:],
                                        ("matters", book[key], paper[2]), ("matters", paper[1], paper[2][:-1]))
                    for value in (*OTHERS, FEED, [paper[1]], (paper[1],)):
                        if value not in others_of(book, key) or isinstance(value, bool):
                            self.assert_refused(book, key, ("matters", value, paper[2]))

    def assert_idle_refused(self, book, key, tables):
        self.assert_refused(book, key, ("idle", list(tables)), ("idle", (*tables, None)), ("idle", None), ("idle",),
                            ["idle", tables], ("idle", tables, None), ("matters", tables), tables,
                            ("idle", (*tables, (book[key], Reach(book, book).table))))
        for index, (value, table) in enumerate(tables):
            for pair in ((value, table[1:]), (value, None), (value,), [value, table], (value, table, 0),
                         (book[key], table), (table, value), None):
                self.assert_refused(book, key, ("idle", (*tables[:index], pair, *tables[index + 1:])))
            self.assert_refused(book, key, ("idle", tables[:index] + tables[index + 1:]))
        if len(tables) > 1:
            self.assert_refused(book, key, ("idle", tables[::-1]))

    def assert_refused(self, book, key, *values):
        for value in values:
            self.assertIs(is_entry_paper(book, key, value), False, (key, value))

    def test_booleans_are_no_numbers(self):
        paper = entry_paper(FEED, ("come", 0))
        self.assertEqual(paper[1], 1)
        self.assert_refused(FEED, ("come", 0), ("matters", True, paper[2]))
        used = FEED.with_entry("ticks", 1, None)
        paper = entry_paper(used, ("used", 1))
        self.assertEqual([value for value, _ in paper[1]], [(0, "back"), (0, "front"), (1, "front")])
        turned = (((False, "back"), paper[1][0][1]), *paper[1][1:])
        self.assertEqual(turned, paper[1])
        self.assert_refused(used, ("used", 1), ("idle", turned))

    def test_values_of_other_kinds(self):
        for key in FEED.entries():
            self.assert_refused(FEED, key, *OTHERS, *BOOKS, LOAD, ("matters",), ("idle",), ("matters", None, LOAD))
        # There is no other value of `takes` at level 0.
        self.assertIs(is_entry_paper(FEED, ("takes", 0), ("idle", ())), True)
        self.assert_refused(FEED, ("takes", 0), ("matters", 0, LOAD), ("idle", ((0, ()),)))


class Errors(unittest.TestCase):
    def test_books(self):
        for book in NO_BOOKS:
            for function in (*FUNCTIONS, are_free):
                with self.assertRaises(InvalidBook):
                    function(book, None)
            with self.assertRaises(InvalidBook):
                idle_keys(book)

    def test_keys(self):
        for function in FUNCTIONS:
            for key in (*OTHERS, FEED, "us", ["used", 0], ("used", 0, 0)):
                if not (type(key) is tuple and len(key) == 2):
                    with self.assertRaises(InvalidOperation):
                        function(FEED, key)
            for word in (*OTHERS, FEED, "Used", "on"):
                with self.assertRaises(UnknownName) as caught:
                    function(FEED, (word, None))
                self.assertIs(caught.exception.word, word)
            for word, wrong in (("used", 2), ("come", 2), ("takes", -1), ("ticks", True), ("lost", None), ("way", FORTY)):
                with self.assertRaises(InvalidNumber) as caught:
                    function(FEED, (word, wrong))
                self.assertIs(caught.exception.number, wrong)

    def test_too_many_only_if_it_is_met(self):
        # The first other value has more than 20,000 joint stands with the book, though the books part.
        book = some_full_book(random.Random(1))
        for function in (matters, entry_paper):
            with self.assertRaises(TooMany) as caught:
                function(book, ("lost", 2))
            self.assertEqual(caught.exception.limit, 20000)
        with self.assertRaises(TooMany):
            idle_keys(book)
        # Other values are met first that part, and behind them one with too many.
        self.assertIs(matters(book, ("ticks", 0)), True)
        self.assertEqual(entry_paper(book, ("ticks", 0))[:2], ("matters", 1))
        with self.assertRaises(TooMany):
            alike(book, book.with_entry("ticks", 0, 2))
        # One that is alike, one that parts, and then ones with too many.
        book = some_full_book(random.Random(9))
        values = others_of(book, ("used", 1))
        self.assertIs(alike(book, book.with_entry("used", 1, values[0])), True)
        self.assertEqual(entry_paper(book, ("used", 1))[:2], ("matters", values[1]))
        with self.assertRaises(TooMany):
            alike(book, book.with_entry("used", 1, values[-1]))

    def test_papers_are_judged_all_the_same(self):
        book = some_full_book(random.Random(1))
        self.assertIs(is_entry_paper(book, ("lost", 2), ("idle", ())), False)
        self.assertIs(is_entry_paper(book, ("lost", 2), ("matters", others_of(book, ("lost", 2))[0], LOAD)), False)


class Freedom(unittest.TestCase):
    def test_no_key_and_one(self):
        for book in SMALL:
            self.assertIs(are_free(book, ()), True)
            for key in book.entries():
                self.assertIs(are_free(book, (key,)), not matters(book, key))

    def test_entries_that_matter_only_together(self):
        # Without a slice `used` does not matter, nor, where who has used it up goes to the front, does the slice.
        self.assertEqual([matters(FREE, ("used", 0)), matters(FREE, ("ticks", 0))], [False, False])
        self.assertIs(are_free(FREE, (("used", 0), ("ticks", 0))), False)
        self.assertIs(are_free(FREE, (("ticks", 0), ("used", 0))), False)
        self.assertIs(are_free(FREE, (("lost", 0), ("takes", 0), ("come", 0), ("used", 0))), True)

    def test_several_keys(self):
        source = random.Random("free")
        for book in SMALL:
            for _ in range(6):
                keys = tuple(source.sample(book.entries(), min(2, len(book.entries()))))
                books = [book.with_entry(*keys[0], one).with_entry(*keys[1], two)
                         for one in book.values_for(*keys[0]) for two in book.values_for(*keys[1])]
                if len(books) <= 64:
                    self.assertIs(are_free(book, keys), all(alike(book, other) for other in books))

    def test_values_that_are_no_keys(self):
        for value in (*OTHERS, FEED, [("used", 0)], ("used", 0), (("used", 2),), (("used", True),), (("Used", 0),),
                      (("used", 0), None), (("used", 0), ["way", 0]), (("used", 0), ("used", 0)), ((),), ([],), ({},),
                      (("way", 0), ("used", 0), ("way", 0)), {("used", 0): 1}):
            if value == () and type(value) is tuple:
                continue
            with self.assertRaises(InvalidOperation):
                are_free(FEED, value)

    def test_sixty_four_ways(self):
        keys = (("ticks", 0), ("ticks", 1), ("used", 0))
        self.assertIs(are_free(FEED, keys), False)
        for more in ((*keys, ("come", 0)), (*keys, ("takes", 1)), FEED.entries(), (("wake", 0), ("wake", 1), ("come", 0))):
            with self.assertRaises(TooMany) as caught:
                are_free(FEED, more)
            self.assertEqual(caught.exception.limit, 64)
        # One more with one value alone.
        self.assertIs(are_free(FEED, (*keys, ("takes", 0))), False)
        with self.assertRaises(InvalidOperation):
            are_free(FEED, (*FEED.entries(), ("used", 0)))

    def test_too_many_joint_stands_of_any_book(self):
        # The first other value parts, and a later one has too many.
        book = some_full_book(random.Random(1))
        with self.assertRaises(TooMany) as caught:
            are_free(book, (("ticks", 0),))
        self.assertEqual(caught.exception.limit, 20000)


if __name__ == "__main__":
    unittest.main()
