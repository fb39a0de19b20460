"""[12.1] to [12.3]: levels that are reached, left out, and joined."""

import random
import unittest

from tests.reference import some_book
from tests.samples import BOOKS, FEED, FORTY, LATE, LOAD, ONE, OTHERS, WIDE
from twoandabell.book.books import Book, Level
from twoandabell.book.states import postures
from twoandabell.change.entries import matters
from twoandabell.change.levels import counts, join_paper, joined, reached, trimmed, without
from twoandabell.errors import InvalidBook, InvalidNumber, InvalidOperation, TooMany, UnknownName
from twoandabell.pair.joints import alike, is_paper, paper
from twoandabell.text.books import read_book

NO_BOOKS = (*OTHERS, *FEED.levels, FEED.levels, LOAD)
THREE = Book(*FEED.levels, Level.plain(2), ranks=(0, 1))
# Only the last level is reached, which takes running tasks away by bells.
LAST = read_book("""ranks 2 2
level ticks 1, used 1 back, wake 1 back new, way 0 back new, lost 2 back new, takes 0
level ticks 2, used 2 front, wake 0 back kept, way 1 back new, lost 2 front kept, takes 1
level ticks 3, used 2 back, wake 2 front new, way 2 back kept, lost 2 back kept, takes 2""")
# Levels 0 and 2 are reached, the one between is not; level 0 is left alone, but the last one names all of them.
GAP = read_book("""ranks 0 2
level ticks none, used 1 back, wake 2 back new, way 2 back new, lost 1 front new, takes 0
level ticks 2, used 0 front, wake 1 back kept, way 2 back new, lost 1 front kept, takes 1
level ticks 2, used 0 back, wake 0 front new, way 2 back kept, lost 2 front kept, takes 2""")


def with_gaps(many, seed):
    """Books in which some level is not reached."""
    source, found = random.Random(seed), []
    while len(found) < many:
        book = some_book(source)
        if len({posture[1] for posture in postures(book)}) < len(book):
            found.append(book)
    return found


def entries_of(book):
    return {key: book[key] for key in book.entries()}


def is_alike(book, other):
    """Whether two books are alike; `None` if this is too much to tell."""
    try:
        return alike(book, other)
    except TooMany:
        return None


def made_of(entries, many, ranks):
    words = ("used", "wake", "way", "lost", "takes")
    return Book(*[Level(entries["ticks", index], **{word: entries[word, index] for word in words})
                  for index in range(many)], ranks=tuple(entries["come", rank] for rank in range(ranks)))


def by_numbers(book, numbers, instead, takes):
    """A book made entry by entry: old levels have new numbers, those without one are named otherwise."""
    made = {}
    for (word, index), value in entries_of(book).items():
        if word == "come":
            made[word, index] = numbers[value] if value in numbers else instead(index)
        elif index in numbers:
            if word in ("used", "wake", "way", "lost"):
                target = numbers[value[0]] if value[0] in numbers else instead(index)
                value = (target, *value[1:])
            made[word, numbers[index]] = takes(index, value) if word == "takes" else value
    return made_of(made, len(numbers), len(book.ranks))


def right_without(book, gone):
    """The book without some levels, by the letter of [12.2]."""
    left = [index for index in range(len(book)) if index not in gone]
    numbers = {old: new for new, old in enumerate(left)}
    return by_numbers(book, numbers, lambda index: numbers[index],
                      lambda index, value: len([old for old in left if old < value]))


def right_joined(book, level):
    """The book with a level and the next one joined, by the letter of [12.3]."""
    numbers = {old: old if old <= level else old - 1 for old in range(len(book)) if old != level + 1}
    return by_numbers(book, numbers, lambda index: level,
                      lambda index, value: value - 1 if index > level + 1 and value > level else value)


class Reached(unittest.TestCase):
    def test_examples(self):
        self.assertEqual(
            [reached(THREE), trimmed(THREE) == FEED, counts(FEED, ("lost", 0)), joined(FEED, 0) - ONE,
             join_paper(FEED, 0)[0]],
            [(0, 1), True, False, (("lost", 0),), "parting"])

    def test_levels(self):
        self.assertEqual([reached(book) for book in (FEED, LATE, ONE, WIDE, LAST, GAP)],
                         [(0, 1), (0, 1), (0,), (0, 1, 2), (2,), (0, 2)])
        for book in with_gaps(20, "reached"):
            self.assertEqual(reached(book), tuple(sorted({posture[1] for posture in postures(book)})))

    def test_what_counts_by_hand(self):
        for book, right in (
                (ONE, [("come", 0), ("come", 1), ("ticks", 0), ("used", 0), ("wake", 0), ("way", 0)]
                 + [("takes", 0)]),
                (LAST, [("come", 0), ("come", 1), ("lost", 2), ("takes", 2), ("ticks", 2), ("used", 2), ("wake", 2),
                        ("way", 2)]),
                # Level 0 has no slice, and takes 0.
                (GAP, [("come", 0), ("come", 1), ("lost", 2), ("takes", 0), ("takes", 2), ("ticks", 0), ("ticks", 2),
                       ("used", 2), ("wake", 0), ("wake", 2), ("way", 0), ("way", 2)])):
            self.assertEqual([key for key in book.entries() if counts(book, key)], sorted(right))
        # `lost` counts neither with the slice 1 nor with `takes` 0.
        for ticks, takes, right in ((1, 1, False), (2, 0, False), (2, 1, True), (None, 1, True), (None, 0, False)):
            book = FEED.with_entry("ticks", 1, ticks).with_entry("takes", 1, takes)
            self.assertIs(counts(book, ("lost", 1)), right)
            self.assertIs(counts(book, ("used", 1)), ticks is not None)

    def test_what_does_not_count_does_not_matter(self):
        for book in (FEED, ONE, LAST, GAP, *with_gaps(3, "alone")):
            for key in book.entries():
                if not counts(book, key):
                    self.assertIs(matters(book, key), False, (str(book), key))

    def test_what_does_not_count_does_not_matter_together(self):
        source = random.Random("together")
        books = [LAST, GAP, THREE, FEED, *with_gaps(12, "gaps"), *[some_book(source) for _ in range(10)]]
        for book in books:
            keys = [key for key in book.entries() if not counts(book, key)]
            for _ in range(3):
                other = book
                for key in keys:
                    other = other.with_entry(*key, source.choice(book.values_for(*key)))
                self.assertIn(is_alike(book, other), (True, None))

    def test_errors(self):
        for book in NO_BOOKS:
            for function in (reached, trimmed, lambda value: counts(value, None)):
                with self.assertRaises(InvalidBook):
                    function(book)
        for key in (*OTHERS, FEED, "us", ["used", 0]):
            if not (type(key) is tuple and len(key) == 2):
                with self.assertRaises(InvalidOperation):
                    counts(FEED, key)
        for word in (*OTHERS, FEED, "Used"):
            with self.assertRaises(UnknownName):
                counts(FEED, (word, None))
        for word, wrong in (("used", 2), ("come", 2), ("takes", True), ("lost", None)):
            with self.assertRaises(InvalidNumber) as caught:
                counts(FEED, (word, wrong))
            self.assertIs(caught.exception.number, wrong)


class Trimming(unittest.TestCase):
    def test_by_hand(self):
        for book in (FEED, LATE, ONE, WIDE):
            self.assertEqual(trimmed(book), book)
        # Level 0 stays, for `takes` of the last one would get 0; level 1 does not.
        self.assertEqual(trimmed(LAST), read_book("""ranks 1 1
level ticks 1, used 0 back, wake 0 back new, way 0 back new, lost 1 back new, takes 0
level ticks 3, used 1 back, wake 1 front new, way 1 back kept, lost 1 back kept, takes 1"""))
        self.assertEqual(trimmed(GAP), read_book("""ranks 0 1
level ticks none, used 0 back, wake 1 back new, way 1 back new, lost 0 front new, takes 0
level ticks 2, used 0 back, wake 0 front new, way 1 back kept, lost 1 front kept, takes 1"""))
        # With `takes` 0 nothing keeps level 0, nor does a level that is not reached.
        calm = LAST.with_entry("takes", 2, 0)
        self.assertEqual(trimmed(calm), read_book("""ranks 0 0
level ticks 3, used 0 back, wake 0 front new, way 0 back kept, lost 0 back kept, takes 0"""))

    def test_level_0_goes_where_another_one_keeps_takes(self):
        book = Book(*[Level.plain(0, 1), Level.plain(1, 2).replaced("takes", 0), Level.plain(2, 3)], ranks=(1, 2))
        self.assertEqual(reached(book), (1, 2))
        self.assertEqual(trimmed(book), Book(Level.plain(0, 2), Level.plain(1, 3), ranks=(0, 1)))
        # `takes` 1 of the last one would get 0, and so would that of the one between.
        for changed in (book.with_entry("takes", 2, 1), book.with_entry("takes", 1, 1)):
            self.assertEqual(trimmed(changed), changed)

    def test_as_without_each_level(self):
        one, two = 0, 0
        for book in with_gaps(120, "trimmed"):
            gone = [index for index in range(len(book)) if index not in reached(book)]
            if 0 in gone:
                without_all = right_without(book, gone)
                kept = reached(book)
                if any(book["takes", old] >= 1 and without_all["takes", kept.index(old)] == 0 for old in kept):
                    gone.remove(0)
            self.assertEqual(trimmed(book), right_without(book, gone))
            one, two = one + (len(gone) == 1), two + (len(gone) == 2)
            short = book
            for level in gone[::-1]:
                short = without(short, level)
            self.assertEqual(trimmed(book), short)
        self.assertGreater(min(one, two), 5)

    def test_it_is_alike_to_what_it_was(self):
        for book in (LAST, GAP, THREE, *with_gaps(40, "trimmed alike")):
            short = trimmed(book)
            self.assertIn(is_alike(book, short), (True, None))
            self.assertEqual(trimmed(short), short)


class Without(unittest.TestCase):
    def test_by_hand(self):
        self.assertEqual(without(THREE, 2), FEED)
        self.assertEqual(without(GAP, 1), trimmed(GAP))
        # Entries that name level 0 name their own level, and `takes` is less where it was greater.
        self.assertEqual(without(Book.of(WIDE.levels, (1, 2)), 0), read_book("""ranks 0 1
level ticks 3, used 1 back, wake 0 back kept, way 0 front kept, lost 0 front new, takes 0
level ticks none, used 1 back, wake 0 front kept, way 0 back kept, lost 1 back kept, takes 1"""))
        self.assertEqual(without(Book.of(WIDE.levels, (0, 2)), 1), read_book("""ranks 0 1
level ticks 2, used 0 front, wake 0 front kept, way 1 front kept, lost 1 back kept, takes 0
level ticks none, used 0 back, wake 1 front kept, way 1 back kept, lost 1 back kept, takes 1"""))

    def test_takes_on_both_sides(self):
        for gone in (0, 1):
            for takes in (0, 1, 2):
                book = Book(Level.plain(0), Level.plain(1), Level.plain(2).replaced("takes", takes), ranks=(2,))
                right = len([old for old in (0, 1) if old != gone and old < takes])
                self.assertEqual(without(book, gone)["takes", 1], right)
        # Nor does the last level change what better ones take.
        book = Book(Level.plain(0), Level.plain(1), Level.plain(2), ranks=(0, 1))
        self.assertEqual(without(book, 2)["takes", 1], 1)

    def test_each_level_of_many_books(self):
        source = random.Random("without")
        for _ in range(150):
            book = some_book(source)
            for level in range(len(book)):
                if len(book) == 1 or level in book.ranks:
                    with self.assertRaises(InvalidOperation):
                        without(book, level)
                else:
                    self.assertEqual(without(book, level), right_without(book, [level]))

    def test_errors(self):
        for book in NO_BOOKS:
            for function in (without, joined, join_paper):
                with self.assertRaises(InvalidBook):
                    function(book, None)
        for level in (*OTHERS, FEED, 3):
            if type(level) is int and level in (0, 1, 2):
                continue
            for function in (without, joined, join_paper):
                with self.assertRaises(InvalidNumber) as caught:
                    function(THREE, level)
                self.assertIs(caught.exception.number, level)
        with self.assertRaises(InvalidNumber):
            without(ONE, 1)
        for book, level in ((ONE, 0), (FEED, 0), (FEED, 1), (THREE, 1)):
            with self.assertRaises(InvalidOperation):
                without(book, level)


class Joining(unittest.TestCase):
    def test_by_hand(self):
        self.assertEqual(joined(FEED, 0), ONE.with_entry("lost", 0, (0, "front", "kept")))
        self.assertEqual(joined(WIDE, 0), read_book("""ranks 0 1 0
level ticks 2, used 0 front, wake 0 front kept, way 1 front kept, lost 1 back kept, takes 0
level ticks none, used 0 back, wake 0 front kept, way 0 back kept, lost 1 back kept, takes 1"""))
        self.assertEqual(joined(WIDE, 1), read_book("""ranks 0 1 1
level ticks 2, used 1 front, wake 0 front kept, way 1 front kept, lost 1 back kept, takes 0
level ticks 3, used 1 back, wake 0 back kept, way 0 front kept, lost 1 front new, takes 1"""))

    def test_takes_of_a_worse_level(self):
        # One less exactly if it was greater than 0, other than without level 1.
        for takes, right, left_out in ((0, 0, 0), (1, 0, 1), (2, 1, 1)):
            book = Book(Level.plain(0), Level.plain(1), Level.plain(2).replaced("takes", takes), ranks=(2,))
            self.assertEqual(joined(book, 0)["takes", 1], right)
            self.assertEqual(without(book, 1)["takes", 1], left_out)

    def test_each_level_of_many_books(self):
        source = random.Random("joined")
        for _ in range(150):
            book = some_book(source)
            for level in range(len(book) - 1):
                self.assertEqual(joined(book, level), right_joined(book, level))
            for level in (len(book) - 1, len(book), FORTY):
                for function in (joined, join_paper):
                    with self.assertRaises(InvalidNumber) as caught:
                        function(book, level)
                    self.assertEqual(caught.exception.number, level)

    def test_papers(self):
        source = random.Random("join papers")
        words = []
        same = Book(Level.plain(0, 2), Level.plain(0, 2).replaced("lost", (1, "back", "new")), ranks=(0, 1))
        for book in (*BOOKS, same.with_entry("come", 1, 0), *[some_book(source) for _ in range(40)]):
            for level in range(len(book) - 1):
                other = joined(book, level)
                try:
                    right = paper(book, other)
                except TooMany as error:
                    with self.assertRaises(TooMany) as caught:
                        join_paper(book, level)
                    self.assertEqual(caught.exception.limit, error.limit)
                    continue
                found = join_paper(book, level)
                self.assertEqual(found[0], right[0])
                self.assertTrue(is_paper(book, other, found))
                words.append(found[0])
        self.assertEqual(set(words), {"alike", "parting"})


if __name__ == "__main__":
    unittest.main()
