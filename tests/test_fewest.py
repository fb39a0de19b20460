"""[16.1]: the fewest changes that make one book alike to another one."""

import random
import unittest
from itertools import combinations
from unittest.mock import patch

from tests.reference import some_book, some_full_book
from tests.samples import BOOKS, FEED, FORTY, LATE, LOAD, ONE, OTHERS, WIDE
from twoandabell.book.books import Book
from twoandabell.change import fewest
from twoandabell.change.fewest import change_paper, fewest_changes, is_change_paper
from twoandabell.errors import InvalidBook, InvalidOperation, TooMany
from twoandabell.pair.joints import Reach, alike, is_table, parting_load
from twoandabell.run.loads import is_parting
from twoandabell.text.books import read_book

NO_BOOKS = (*OTHERS, *FEED.levels, FEED.levels, LOAD)
FUNCTIONS = (fewest_changes, change_paper, lambda book, other: is_change_paper(book, other, None))
# Without a slice `used` does not matter; with one, whether who has used it up goes to the front or to the back does.
FREE = read_book("ranks 0\nlevel ticks none, used 0 front, wake 0 back kept, way 0 back new, lost 0 back kept, takes 0")
TOGETHER = FREE.with_entry("ticks", 0, 1).with_entry("used", 0, (0, "back"))
CALM = FEED.with_entry("lost", 0, (0, "back", "new"))


def changed(book, keys, other):
    for key in keys:
        book = book.with_entry(*key, other[key])
    return book


def choices(keys):
    return [chosen for many in range(len(keys) + 1) for chosen in combinations(keys, many)]


def some_changes(source, book, many):
    other = book
    for _ in range(many):
        key = source.choice(book.entries())
        other = other.with_entry(*key, source.choice(book.values_for(*key)))
    return other


def pairs(many, seed):
    """Books that differ in up to six entries, and have not too many joint stands."""
    source, found = random.Random(seed), []
    while len(found) < many:
        book = some_book(source)
        other = some_changes(source, book, source.randint(0, 6))
        try:
            fewest_changes(book, other)
        except TooMany:
            continue
        found.append((book, other))
    return found


PAIRS = [(FEED, LATE), (FEED, FEED), (FEED, CALM), (FREE, TOGETHER), (TOGETHER, FREE), (CALM, LATE), *pairs(80, "few")]


class Fewest(unittest.TestCase):
    def test_examples(self):
        self.assertEqual([fewest_changes(FEED, LATE), change_paper(FEED, CALM)[0]], [(("lost", 1),), ()])
        self.assertEqual(fewest.MAX_DIFFERENT, 6)

    def test_by_hand(self):
        self.assertEqual(fewest_changes(FEED, FEED), ())
        self.assertEqual(fewest_changes(CALM, LATE), (("lost", 1),))
        # Several only together.
        self.assertEqual(TOGETHER - FREE, (("ticks", 0), ("used", 0)))
        self.assertEqual(fewest_changes(FREE, TOGETHER), (("ticks", 0), ("used", 0)))
        # The other way one of them is enough, and it is the first one.
        self.assertEqual(fewest_changes(TOGETHER, FREE), (("ticks", 0),))
        # All of them.
        other = LATE.with_entry("come", 0, 1).with_entry("ticks", 1, 3)
        self.assertEqual(fewest_changes(FEED, other), FEED - other)

    def test_the_first_one_of_the_shortest(self):
        found = set()
        for book, other in PAIRS:
            every = book - other
            right = [keys for keys in choices(every) if alike(changed(book, keys, other), other)][0]
            self.assertEqual(fewest_changes(book, other), right)
            found.add((len(right), len(every)))
        self.assertTrue({(0, 0), (0, 1), (1, 1), (1, 2), (2, 2), (3, 3)} <= found)
        self.assertTrue({5, 6} & {many for many, _ in found} or {5, 6} & {many for _, many in found})

    def test_papers(self):
        for book, other in PAIRS:
            paper = change_paper(book, other)
            self.assertIs(is_change_paper(book, other, paper), True)
            keys, table, refusals = paper
            self.assertEqual(keys, fewest_changes(book, other))
            self.assertTrue(is_table(changed(book, keys, other), other, table))
            self.assertEqual([fewer for fewer, _ in refusals],
                             [chosen for chosen in choices(book - other) if len(chosen) < len(keys)])
            for fewer, load in refusals:
                self.assertTrue(is_parting(changed(book, fewer, other), other, load))


class Papers(unittest.TestCase):
    def test_correct_ones_of_others(self):
        book, other = FREE, TOGETHER
        keys, table, refusals = change_paper(book, other)
        self.assertEqual([fewer for fewer, _ in refusals], [(), (("ticks", 0),), (("used", 0),)])
        longer = tuple((fewer, ((((), "bell"), ((), "on")) + load)) for fewer, load in refusals)
        self.assertIs(is_change_paper(book, other, (keys, table, longer)), True)
        # Other keys that are enough, and as few.
        found = 0
        for book, other in PAIRS:
            keys, table, refusals = change_paper(book, other)
            for chosen in combinations(book - other, len(keys)):
                one = changed(book, chosen, other)
                if chosen != keys and alike(one, other):
                    self.assertIs(is_change_paper(book, other, (chosen, Reach(one, other).table, refusals)), True)
                    found += 1
        self.assertGreater(found, 0)

    def test_keys_that_are_more_than_enough(self):
        every = FEED - LATE.with_entry("lost", 0, (0, "back", "new"))
        other = LATE.with_entry("lost", 0, (0, "back", "new"))
        self.assertEqual(every, (("lost", 0), ("lost", 1)))
        table = Reach(other, other).table
        loads = [((), parting_load(FEED, other)), ((("lost", 0),), parting_load(CALM, other)),
                 ((("lost", 1),), parting_load(FEED, LATE))]
        self.assertIs(is_change_paper(FEED, other, (every, table, tuple(loads))), False)
        self.assertIs(is_change_paper(FEED, other, (every, table, tuple(loads[:2]))), False)
        # Keys of entries in which they do not differ.
        self.assertIs(is_change_paper(FEED, FEED, ((("lost", 0),), Reach(FEED, FEED).table, ())), False)

    def test_with_one_part_changed(self):
        for book, other in PAIRS[:40]:
            paper = change_paper(book, other)
            keys, table, refusals = paper
            values = [list(paper), paper[:2], (*paper, None), (table, keys, refusals), (list(keys), table, refusals),
                      (keys, list(table), refusals), (keys, table, list(refusals)), (None, table, refusals),
                      (keys, None, refusals), (keys, table, None), (keys, table[1:], refusals),
                      (keys, table, (*refusals, ((), LOAD))), (keys, table, (*refusals, None)), keys, table,
                      ((*keys, ("come", 0)), table, refusals), ((*keys, None), table, refusals)]
            if keys:
                values += [(keys[:-1], table, refusals), (keys + keys[-1:], table, refusals), ((), table, ()),
                           (tuple([list(key) for key in keys]), table, refusals), (keys, table, refusals[1:]),
                           (keys, table, refusals[:-1]), (keys, table, ())]
            if len(keys) > 1:
                values += [(keys[::-1], table, refusals), (keys, table, refusals[::-1])]
            for index, (fewer, load) in enumerate(refusals):
                for pair in ((fewer, load[:-1]), (fewer, None), (fewer,), [fewer, load], (load, fewer), None,
                             (fewer, (*load, ((), "on"))), (list(fewer), load), (keys, load), (fewer, load, 0)):
                    values.append((keys, table, (*refusals[:index], pair, *refusals[index + 1:])))
            for value in values:
                self.assertIs(is_change_paper(book, other, value), False, value)

    def test_booleans_are_no_numbers(self):
        keys, table, refusals = change_paper(FEED, LATE)
        self.assertEqual(keys, (("lost", 1),))
        self.assertIs(is_change_paper(FEED, LATE, ((("lost", True),), table, refusals)), False)
        keys, table, refusals = change_paper(FREE, TOGETHER)
        turned = [(tuple((word, bool(index)) for word, index in fewer), load) for fewer, load in refusals]
        self.assertEqual(tuple(turned), refusals)
        self.assertIs(is_change_paper(FREE, TOGETHER, (keys, table, tuple(turned))), False)

    def test_values_of_other_kinds(self):
        for value in (*OTHERS, *BOOKS, LOAD, ((), (), ()), (None, None, None)):
            for other in (FEED, LATE, CALM):
                self.assertIs(is_change_paper(FEED, other, value), False)


class Errors(unittest.TestCase):
    def test_books(self):
        for function in FUNCTIONS:
            for value in NO_BOOKS:
                for arguments in ((value, FEED), (FEED, value), (value, value)):
                    with self.assertRaises(InvalidBook):
                        function(*arguments)

    def test_other_numbers_of_levels_and_ranks(self):
        for function in FUNCTIONS:
            for other in (ONE, WIDE, Book.of(FEED.levels, (0,)), Book.of(FEED.levels, (0, 1, 1))):
                for arguments in ((FEED, other), (other, FEED)):
                    with self.assertRaises(InvalidOperation):
                        function(*arguments)

    def test_more_than_six_entries(self):
        source = random.Random("seven")
        tried = set()
        while not {5, 6, 7, 8} <= tried:
            book = some_book(source, 2)
            other = some_changes(source, book, 9)
            many = len(book - other)
            tried.add(many)
            for function in FUNCTIONS:
                if many > 6:
                    with self.assertRaises(TooMany) as caught:
                        function(book, other)
                    self.assertEqual(caught.exception.limit, 6)
            if many <= 6:
                self.assertIs(is_change_paper(book, other, FORTY), False)

    def test_too_many_only_if_it_is_met(self):
        # The books have too many joint stands, though they part soon.
        book = some_full_book(random.Random(1))
        other = book.with_entry("ticks", 0, 2)
        for function in FUNCTIONS[:2]:
            with self.assertRaises(TooMany) as caught:
                function(book, other)
            self.assertEqual(caught.exception.limit, 20000)
        self.assertIs(is_change_paper(book, other, ((), (), ())), False)
        # With a smaller limit: it is not met behind keys that are enough.
        many = len(Reach(FREE, TOGETHER))
        self.assertLess(len(Reach(TOGETHER, TOGETHER)), many)
        with patch("twoandabell.change.fewest.MAX_JOINTS", len(Reach(TOGETHER, TOGETHER))):
            self.assertEqual(fewest_changes(TOGETHER, TOGETHER), ())
            for function in FUNCTIONS[:2]:
                with self.assertRaises(TooMany):
                    function(FREE, TOGETHER)

    def test_loads_that_would_be_too_long(self):
        with patch("twoandabell.pair.courses.MAX_LOAD", 2):
            for function in FUNCTIONS[:2]:
                with self.assertRaises(TooMany) as caught:
                    function(FEED, LATE)
                self.assertEqual(caught.exception.limit, 2)
            self.assertEqual(fewest_changes(FEED, CALM), ())


if __name__ == "__main__":
    unittest.main()
