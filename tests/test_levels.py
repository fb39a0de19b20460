"""Stage 2: class Level."""

import unittest

from tests.samples import FEED, OTHERS, WIDE, entry_values
from twoandabell.base.words import is_entry
from twoandabell.book.books import Level
from twoandabell.errors import InvalidLevel, InvalidNumber, UnknownName

WORDS = ("ticks", "used", "wake", "way", "lost", "takes")
ENTRIES = {
    "ticks": 2, "used": (1, "back"), "wake": (0, "back", "new"), "way": (1, "back", "kept"),
    "lost": (1, "front", "kept"), "takes": 1,
}
TEXT = "ticks 2, used 1 back, wake 0 back new, way 1 back kept, lost 1 front kept, takes 1"


def level_with(**changed):
    return Level(**{**ENTRIES, **changed})


class Levels(unittest.TestCase):
    def test_entries(self):
        level = level_with()
        for word in WORDS:
            self.assertEqual(level[word], ENTRIES[word])
            self.assertEqual(getattr(level, word), ENTRIES[word])
            self.assertIs(word in level, True)

    def test_values_that_can_be_left_out(self):
        given = {word: ENTRIES[word] for word in ("used", "wake", "way", "lost")}
        level = Level(**given)
        self.assertIsNone(level.ticks)
        self.assertIsNone(level["ticks"])
        self.assertEqual(level.takes, 0)
        self.assertEqual(Level(3, **given).ticks, 3)
        self.assertEqual(Level(3, **given), Level(ticks=3, takes=0, **given))
        for word in given:
            fewer = {other: given[other] for other in given if other != word}
            with self.assertRaises(TypeError):
                Level(1, **fewer)
        with self.assertRaises(TypeError):
            Level(1, (1, "back"), wake=(0, "back", "new"), way=(0, "back", "new"), lost=(0, "back", "new"))

    def test_wrong_entries(self):
        for word in WORDS:
            for value in (*entry_values(), FEED, FEED.levels[0]):
                if is_entry(word, value):
                    self.assertEqual(level_with(**{word: value})[word], value)
                    self.assertEqual(level_with().replaced(word, value)[word], value)
                    continue
                with self.assertRaises(InvalidLevel):
                    level_with(**{word: value})
                with self.assertRaises(InvalidLevel):
                    level_with().replaced(word, value)

    def test_several_wrong_entries(self):
        with self.assertRaises(InvalidLevel):
            Level(0, used=None, wake=1, way=[], lost={}, takes=True)
        with self.assertRaises(InvalidLevel):
            level_with(ticks=4, takes=3)

    def test_other_words(self):
        level = level_with()
        for word in (*OTHERS, FEED, level, "come", "Ticks", "ticks ", "on", ("ticks",), ["ticks"], {"ticks": 2}):
            self.assertIs(word in level, False)
            with self.assertRaises(UnknownName) as caught:
                level[word]
            self.assertIs(caught.exception.word, word)
            # An unknown word comes ahead of a wrong value.
            for value in (0, None, [], (1, "back")):
                with self.assertRaises(UnknownName) as caught:
                    level.replaced(word, value)
                self.assertIs(caught.exception.word, word)

    def test_replaced(self):
        level = level_with()
        for word, value in (("ticks", None), ("ticks", 3), ("used", (2, "front")), ("wake", (1, "front", "kept")),
                            ("way", (0, "back", "new")), ("lost", (0, "back", "new")), ("takes", 2)):
            other = level.replaced(word, value)
            self.assertEqual(other, level_with(**{word: value}))
            self.assertNotEqual(other, level)
            self.assertEqual(str(level), TEXT)
            self.assertEqual(level.replaced(word, level[word]), level)

    def test_plain(self):
        for index in (0, 1, 2):
            for ticks in (None, 1, 2, 3):
                level = Level.plain(index, ticks)
                self.assertEqual(level, Level(
                    ticks, used=(index, "back"), wake=(index, "back", "new"), way=(index, "back", "new"),
                    lost=(index, "front", "kept"), takes=index))
                self.assertEqual(Level.plain(index, ticks=ticks), level)
            self.assertIsNone(Level.plain(index).ticks)
        self.assertEqual(
            str(Level.plain(1, 2)),
            "ticks 2, used 1 back, wake 1 back new, way 1 back new, lost 1 front kept, takes 1")

    def test_plain_with_wrong_values(self):
        for index in OTHERS:
            if type(index) is int and index in (0, 1, 2):
                continue
            for ticks in (None, 1, 0, [], "2"):
                with self.assertRaises(InvalidNumber) as caught:
                    Level.plain(index, ticks)
                self.assertIs(caught.exception.number, index)
        for ticks in (0, 4, True, "1", (), [], {}, -1, FEED):
            with self.assertRaises(InvalidLevel):
                Level.plain(0, ticks)

    def test_equality(self):
        self.assertTrue(level_with() == level_with())
        self.assertFalse(level_with() != level_with())
        for word, value in (("ticks", None), ("used", (1, "front")), ("wake", (0, "back", "kept")),
                            ("way", (1, "front", "kept")), ("lost", (1, "front", "new")), ("takes", 0)):
            self.assertFalse(level_with() == level_with(**{word: value}))
            self.assertTrue(level_with() != level_with(**{word: value}))
        for value in (*OTHERS, TEXT, ENTRIES, FEED, WIDE):
            self.assertFalse(level_with() == value)
            self.assertFalse(value == level_with())
            self.assertTrue(level_with() != value)

    def test_text(self):
        self.assertEqual(str(level_with()), TEXT)
        self.assertEqual(
            str(WIDE.levels[2]),
            "ticks none, used 0 back, wake 1 front kept, way 1 back kept, lost 2 back kept, takes 2")

    def test_a_level_never_changes(self):
        given = dict(ENTRIES)
        level = Level(**given)
        given["ticks"] = 3
        for word in WORDS:
            with self.assertRaises(AttributeError):
                setattr(level, word, ENTRIES[word])
            with self.assertRaises(TypeError):
                level[word] = ENTRIES[word]
            with self.assertRaises(TypeError):
                del level[word]
        self.assertEqual(level, level_with())

    def test_no_iteration(self):
        for call in (iter, list, tuple, dict, sorted, set, sum, max, enumerate):
            with self.assertRaises(TypeError):
                call(level_with())
        with self.assertRaises(TypeError):
            for _ in level_with():
                pass
        with self.assertRaises(TypeError):
            len(level_with())


if __name__ == "__main__":
    unittest.main()
