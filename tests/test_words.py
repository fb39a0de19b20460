"""[0.1], [0.5] and stage 1: numbers, places, rests, words and the forms of entries."""

import unittest

from tests.samples import BOOKS, FEED, FORTY, FORTY_ONE, HUNDRED, OTHERS, checks, entry_values
from twoandabell.base import words
from twoandabell.base.words import is_entry, is_number, is_place, is_rest, is_word
from twoandabell.errors import UnknownName

WORDS = ("ticks", "used", "wake", "way", "lost", "takes", "come")


def plain_level(value):
    """Whether a value is just one of the integers 0, 1, 2."""
    return type(value) is int and value in (0, 1, 2)


def plain_form(word, value):
    """What [1] says of the form of an entry, told once more in another way."""
    if word == "ticks":
        return value is None or (type(value) is int and value in (1, 2, 3))
    if word in ("takes", "come"):
        return plain_level(value)
    if type(value) is not tuple or len(value) != (2 if word == "used" else 3):
        return False
    kinds = [plain_level(value[0]), value[1] in ("back", "front"), *[part in ("kept", "new") for part in value[2:]]]
    return all(kinds)


class Words(unittest.TestCase):
    def test_constants(self):
        self.assertEqual((words.MAX_LEVELS, words.MAX_RANKS, words.MAX_SLICE), (3, 3, 3))

    def test_numbers(self):
        for value in (0, 1, 2, 9, 10 ** 20, FORTY):
            self.assertIs(is_number(value), True)
        for value in (-1, -FORTY, -FORTY_ONE, FORTY_ONE, HUNDRED, True, False, None, "0", (), (0,), [0], {}, FEED):
            self.assertIs(is_number(value), False)

    def test_words(self):
        for check, right in ((is_place, ("front", "back")), (is_rest, ("kept", "new")),
                             (is_word, ("on", "sleep", "way", "end", "bell"))):
            for value in right:
                self.assertIs(check(value), True)
                self.assertIs(check(value + " "), False)
                self.assertIs(check(value.upper()), False)
                self.assertIs(check(value[1:]), False)
                self.assertIs(check((value,)), False)
                self.assertIs(check([value]), False)
                self.assertIs(check({value: value}), False)
            for value in ("front", "back", "kept", "new", "on", "sleep", "way", "end", "bell", "lost", "come", "idle"):
                self.assertIs(check(value), value in right)

    def test_every_value_is_accepted(self):
        for check in checks():
            for value in (*OTHERS, *BOOKS, *FEED.levels):
                self.assertIn(check(value), (True, False))
                self.assertIsInstance(check(value), bool)

    def test_forms_of_entries(self):
        for word in WORDS:
            for value in (*entry_values(), FEED, FEED.levels[0]):
                self.assertIs(is_entry(word, value), plain_form(word, value), (word, value))

    def test_some_entries(self):
        for word, value in (("ticks", 1), ("ticks", 3), ("ticks", None), ("used", (2, "front")), ("takes", 0),
                            ("wake", (0, "back", "kept")), ("way", (2, "front", "new")), ("come", 2)):
            self.assertIs(is_entry(word, value), True)
        for word, value in (("ticks", 0), ("ticks", 4), ("ticks", True), ("used", (3, "front")), ("takes", 3),
                            ("used", (True, "back")), ("used", (0, "back", "new")), ("wake", (0, "back")),
                            ("wake", [0, "back", "new"]), ("lost", (0, "new", "back")), ("come", None),
                            ("takes", False), ("way", (-1, "back", "new")), ("come", FORTY_ONE)):
            self.assertIs(is_entry(word, value), False)

    def test_other_words(self):
        for word in (*OTHERS, *BOOKS, *FEED.levels, "on", "Used", "used ", "rank", "level", ("used",), ["used"]):
            for value in (None, 1, (0, "back"), (0, "back", "new"), [], FEED):
                with self.assertRaises(UnknownName) as caught:
                    is_entry(word, value)
                self.assertIs(caught.exception.word, word)


if __name__ == "__main__":
    unittest.main()
