"""[18.1]: texts of loads and charts."""

import random
import unittest

from tests.reference import some_book, some_load
from tests.samples import BOOKS, FEED, FORTY, FORTY_ONE, HUNDRED, LOAD, OTHERS
from twoandabell.errors import InvalidLoad, InvalidOperation, ParseError
from twoandabell.run.loads import chart, is_load
from twoandabell.text.loads import read_chart, read_load, write_chart, write_load

WORDS = ("on", "sleep", "way", "end", "bell")
BIG = ((((("come", FORTY), ("wake", 10 ** 39), ("wake", 10)), "bell"),), f"+{FORTY} ^{10 ** 39} ^10 bell")
CHARTS = (((0, None, "bell"), "0 . *"), ((), "-"), ((None,), "."), (("bell",), "*"), ((59, 10, FORTY), f"59 10 {FORTY}"),
          ((0,) * 400, " ".join(["0"] * 400)))
LOADS = (((), "-"), ((((), "on"),), "on"), (LOAD, "+1 +1 on / +0 end / on"),
         (tuple(((), word) for word in WORDS), "on / sleep / way / end / bell"), BIG,
         ((((("wake", 0),), "on"), ((("come", 2), ("wake", 3)), "way")), "^0 on / +2 ^3 way"))
SIGNS = " +-^/.*0123456789onsleepwayendbel\n\tA_"


def turned(text):
    """Texts that differ from one in a character, which is changed, put in, or left out."""
    for at in range(len(text) + 1):
        yield text[:at] + text[at + 1:]
        for sign in SIGNS:
            yield text[:at] + sign + text[at:]
            yield text[:at] + sign + text[at + 1:]


class Loads(unittest.TestCase):
    def test_examples(self):
        self.assertEqual(
            [write_load(LOAD), read_load("+0 bell / ^0 way"), write_chart((0, None, "bell")), read_chart("-")],
            ["+1 +1 on / +0 end / on", (((("come", 0),), "bell"), ((("wake", 0),), "way")), "0 . *", ()])

    def test_both_ways(self):
        for load, text in LOADS:
            self.assertEqual(write_load(load), text)
            self.assertEqual(read_load(text), load)
            self.assertEqual(repr(read_load(text)), repr(load))

    def test_many(self):
        source = random.Random("texts of loads")
        for _ in range(150):
            book = some_book(source)
            load = some_load(source, book, source.randint(0, 30), 6)
            self.assertEqual(read_load(write_load(load)), load)
            told = chart(book, load)
            self.assertEqual(read_chart(write_chart(told)), told)

    def test_limits(self):
        self.assertEqual(len(read_load(" / ".join(["on"] * 400))), 400)
        twenty = " ".join(["+0"] * 20)
        for text, right in ((" / ".join(["bell"] * 401), False), (twenty + " on", True), ("+0 " + twenty + " on", False),
                            (" ".join(["^0"] * 21) + " on", False), (" / ".join([twenty + " on"] * 3), True),
                            (" / ".join([twenty + " on"] * 3 + ["^0 on"]), True),
                            (" / ".join([twenty + " on"] * 3 + ["+0 on"]), False), (f"+{FORTY} on", True),
                            (f"+{FORTY_ONE} on", False), (f"^{HUNDRED} on", False)):
            if right:
                self.assertEqual(write_load(read_load(text)), text)
            else:
                self.assert_refused(read_load, text)

    def test_texts_with_one_character_changed(self):
        for text in ("-", "on", "+1 ^0 on / +0 end / bell", "^10 sleep / way", f"+{FORTY} on"):
            for other in turned(text):
                self.check_load(other)

    def check_load(self, text):
        try:
            load = read_load(text)
        except ParseError:
            return
        self.assertTrue(is_load(load))
        self.assertEqual(write_load(load), text)

    def test_texts_that_are_none(self):
        for text in ("", " ", "--", "- ", " -", "-\n", "on ", " on", "on  / on", "on /  on", "on/on", "on / ", " / on", "on / - ",
                     "on / -", "- / on", "On", "+ on", "+on", "+0", "+0on", "+ 0 on", "+-1 on", "++1 on", "+01 on", "+00 on",
                     "^00 on", "+1_0 on", "+1.0 on", "+0x1 on", "0 on", "+0  on", "+0 on +0", "on on", "on\n", "\non", "on\n/ on",
                     "+0\non", "+0\ton", "come 0 on", "*", ".", "0", "off", "used", "lost", "on / / on", "on //on"):
            self.assert_refused(read_load, text)

    def test_wrong_values(self):
        for value in (*OTHERS, *BOOKS, LOAD, b"on"):
            self.assert_refused(read_load, value)
            if value != "0":
                self.assert_refused(read_chart, value)
        for value in (*OTHERS, FEED, "on", [LOAD[0]], (((), "off"),), (((), "on"),) * 401, ((["come", 0], "on"),),
                      (((("come", True),), "on"),), (((("come", FORTY_ONE),), "on"),)):
            if value != ():
                with self.assertRaises(InvalidLoad):
                    write_load(value)

    def assert_refused(self, function, value):
        with self.assertRaises(ParseError):
            function(value)


class Charts(unittest.TestCase):
    def test_both_ways(self):
        for told, text in CHARTS:
            self.assertEqual(write_chart(told), text)
            self.assertEqual(repr(read_chart(text)), repr(told))

    def test_texts_with_one_character_changed(self):
        for text in ("-", ".", "*", "0 . *", "10 0 59 .", f". {FORTY}"):
            for other in turned(text):
                try:
                    told = read_chart(other)
                except ParseError:
                    continue
                self.assertEqual(write_chart(told), other)

    def test_texts_that_are_none(self):
        for text in ("", " ", "- -", "0 -", "00", "01", "+1", "-1", "0 ", " 0", "0  0", "0\n", "\n0", "0\n0", "0\t0", "1_0", "None",
                     "bell", "**", "..", "*.", "1.", ". *\n", "on", str(FORTY_ONE), str(HUNDRED), " ".join(["0"] * 401)):
            with self.assertRaises(ParseError):
                read_chart(text)

    def test_wrong_values(self):
        for value in (*OTHERS, FEED, "bell", [0], (True,), (0, False), (-1,), (FORTY_ONE,), ("0",), ("on",), ((),),
                      ("idle",), (None,) * 401, (0, ["bell"]), (b"bell",), (FEED,), LOAD):
            if value != () and not (isinstance(value, tuple) and value in ((0,), (0, 0), (None, None))):
                with self.assertRaises(InvalidOperation):
                    write_chart(value)
        self.assertEqual(write_chart((None,) * 400), " ".join(["."] * 400))


if __name__ == "__main__":
    unittest.main()
