"""[3.1]: texts of books."""

import re
import unittest

from tests.reference import some_books
from tests.samples import BOOKS, FEED, HUNDRED, LATE, LOAD, ONE, OTHERS, WIDE
from twoandabell.book.books import Book, Level
from twoandabell.errors import InvalidBook, ParseError
from twoandabell.text.books import read_book, write_book

FEED_TEXT = """ranks 0 1
level ticks 1, used 1 back, wake 0 back new, way 0 back new, lost 0 front kept, takes 0
level ticks 2, used 1 back, wake 0 back new, way 1 back new, lost 1 front kept, takes 1"""
ONE_TEXT = """ranks 0 0
level ticks 1, used 0 back, wake 0 back new, way 0 back new, lost 0 back new, takes 0"""
WIDE_TEXT = """ranks 0 2 1
level ticks 2, used 1 front, wake 0 front kept, way 2 front kept, lost 2 back kept, takes 0
level ticks 3, used 2 back, wake 0 back kept, way 0 front kept, lost 1 front new, takes 1
level ticks none, used 0 back, wake 1 front kept, way 1 back kept, lost 2 back kept, takes 2"""

TRIPLE = "([0-2]) (?:front|back) (?:kept|new)"
LINE = re.compile(
    f"level ticks (?:[1-3]|none), used ([0-2]) (?:front|back), wake {TRIPLE}, way {TRIPLE}, lost {TRIPLE}, "
    "takes ([0-2])")


def is_text(text):
    """Whether a string is the text of a book, told by its form and its numbers alone."""
    first, *lines = text.split("\n")
    levels = [LINE.fullmatch(line) for line in lines]
    if not re.fullmatch("ranks(?: [0-2]){1,3}", first) or not 1 <= len(levels) <= 3 or None in levels:
        return False
    many = len(levels)
    for index, level in enumerate(levels):
        used, wake, way, lost, takes = [int(number) for number in level.groups()]
        if max(used, wake, way, lost) >= many or lost < index or takes > index:
            return False
    return all(int(number) < many for number in first.split(" ")[1:])


def changed_texts(text):
    """Texts that differ from one a little."""
    for at in range(len(text) + 1):
        yield text[:at] + text[at + 1:]
        for letter in " \n,0129-+_xkn\t":
            yield text[:at] + letter + text[at:]
            yield text[:at] + letter + text[at + 1:]
    words = re.split("( |, |\n)", text)
    for at in range(len(words)):
        yield "".join(words[:at] + words[at + 1:])
        yield "".join(words[:at] + words[at + 2:])
        for word in ("back", "front", "kept", "new", "none", "None", "level", "ranks", "ticks", "used", "", " ", "\n",
                     "\n\n", "  ", ",", " ,", ", ", "00", "01", "+1", "-0", "-1", "1.0", "1_0", "3", "4", "10",
                     str(HUNDRED), "Back", "backs", "0 0", "0, 0", "lost"):
            yield "".join(words[:at] + [word] + words[at:])
            yield "".join(words[:at] + [word] + words[at + 1:])


class Texts(unittest.TestCase):
    def assert_refused(self, text):
        with self.assertRaises(ParseError):
            read_book(text)

    def test_examples(self):
        self.assertEqual(write_book(ONE), "ranks 0 0\nlevel " + str(ONE.levels[0]))
        self.assertEqual(read_book(write_book(LATE)), LATE)
        self.assertEqual(LATE, read_book(FEED_TEXT).with_entry("lost", 1, (1, "back", "kept")))
        self.assert_refused(
            "ranks 0\nlevel ticks 4, used 0 back, wake 0 back new, way 0 back new, lost 0 back new, takes 0")

    def test_exact_texts(self):
        for book, text in ((FEED, FEED_TEXT), (ONE, ONE_TEXT), (WIDE, WIDE_TEXT)):
            self.assertEqual(write_book(book), text)
            self.assertEqual(read_book(text), book)

    def test_many_books(self):
        for book in (*BOOKS, *some_books(300, "texts")):
            text = write_book(book)
            self.assertTrue(is_text(text))
            self.assertEqual(read_book(text), book)
            self.assertEqual(write_book(read_book(text)), text)
            for word, index in book.entries():
                for value in book.values_for(word, index):
                    other = book.with_entry(word, index, value)
                    self.assertEqual(read_book(write_book(other)), other)
                    self.assertEqual(write_book(other) == text, other == book)

    def test_changed_texts(self):
        refused = 0
        for text in (FEED_TEXT, ONE_TEXT, WIDE_TEXT):
            for changed in changed_texts(text):
                if is_text(changed):
                    self.assertEqual(write_book(read_book(changed)), changed)
                else:
                    refused += 1
                    self.assert_refused(changed)
        self.assertGreater(refused, 10000)

    def test_lines(self):
        for text in (FEED_TEXT, WIDE_TEXT):
            lines = text.split("\n")
            for at in range(len(lines)):
                for other in range(len(lines)):
                    exchanged = list(lines)
                    exchanged[at], exchanged[other] = lines[other], lines[at]
                    for rows in (exchanged, lines[:at] + lines[at + 1:], lines[:at] + [lines[other]] + lines[at:]):
                        changed = "\n".join(rows)
                        if is_text(changed):
                            self.assertEqual(write_book(read_book(changed)), changed)
                        else:
                            self.assert_refused(changed)
        # Without its last level there is no book, for the other one leads to it; nor are there four levels.
        self.assert_refused("\n".join(FEED_TEXT.split("\n")[:2]))
        self.assert_refused(WIDE_TEXT + "\n" + WIDE_TEXT.split("\n")[3])
        self.assert_refused(FEED_TEXT.replace("ranks 0 1\n", ""))
        self.assert_refused("ranks 0 1\n" + FEED_TEXT)

    def test_blanks_and_newlines(self):
        for changed in (FEED_TEXT + "\n", "\n" + FEED_TEXT, FEED_TEXT + " ", " " + FEED_TEXT,
                        FEED_TEXT.replace("\n", "\n\n"), FEED_TEXT.replace(" ", "  "), FEED_TEXT.replace(", ", ","),
                        FEED_TEXT.replace("\n", " \n"), FEED_TEXT.replace("\n", "\n "), FEED_TEXT.replace(", ", " , "),
                        FEED_TEXT.replace("\n", "\r\n"), FEED_TEXT.replace("\n", " ; "), FEED_TEXT.replace(" ", "\t"),
                        FEED_TEXT.upper(), FEED_TEXT.replace("\n", "")):
            self.assert_refused(changed)

    def test_numbers(self):
        for number in ("00", "01", "+0", "-0", " 0", "0 ", "0.0", "0x0", "zero", "", "True", "None", "3", "4", "-1",
                       "10", str(HUNDRED), "-" + str(HUNDRED), "0" * 100):
            self.assert_refused(ONE_TEXT.replace("ranks 0 0", f"ranks 0 {number}"))
            for entry in ("used 0", "wake 0", "way 0", "lost 0", "takes 0"):
                self.assert_refused(ONE_TEXT.replace(entry, entry[:-1] + number))
        for number in ("0", "4", "01", "+1", "-1", "None", "none 1", "1 1", "", str(HUNDRED)):
            self.assert_refused(ONE_TEXT.replace("ticks 1", f"ticks {number}"))
        self.assertEqual(read_book(ONE_TEXT.replace("ticks 1", "ticks none"))["ticks", 0], None)
        self.assert_refused(ONE_TEXT.replace("takes 0", "takes none"))
        self.assert_refused(ONE_TEXT.replace("takes 0", "takes 0 0"))
        self.assert_refused(ONE_TEXT.replace("takes 0", "takes"))
        self.assert_refused(ONE_TEXT.replace("used 0 back", "used 0 back new"))
        self.assert_refused(ONE_TEXT.replace("used 0 back", "used 0"))
        self.assert_refused(ONE_TEXT.replace("wake 0 back new", "wake 0 back"))
        self.assert_refused(ONE_TEXT.replace("ranks 0 0", "ranks"))
        self.assert_refused(ONE_TEXT.replace("ranks 0 0", "ranks 0 0 0 0"))
        self.assertEqual(len(read_book(ONE_TEXT.replace("ranks 0 0", "ranks 0 0 0")).ranks), 3)

    def test_every_other_value(self):
        for value in (*OTHERS, *BOOKS, *FEED.levels, LOAD, [FEED_TEXT], (FEED_TEXT,), {FEED_TEXT: FEED_TEXT},
                      "level " + str(FEED.levels[0]), "ranks 0", "ranks 0\n", str(FEED), "\n".join(["level"] * 600)):
            self.assert_refused(value)

    def test_what_is_no_book(self):
        for value in (*OTHERS, *FEED.levels, FEED.levels, LOAD, FEED_TEXT, [FEED], (FEED,)):
            with self.assertRaises(InvalidBook):
                write_book(value)

    def test_levels_without_a_slice(self):
        book = Book(Level.plain(0), ranks=(0,))
        self.assertEqual(
            write_book(book),
            "ranks 0\nlevel ticks none, used 0 back, wake 0 back new, way 0 back new, lost 0 front kept, takes 0")


if __name__ == "__main__":
    unittest.main()
