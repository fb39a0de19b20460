"""[18.2]: class Shell."""

import random
import unittest

from tests.reference import some_full_book
from tests.samples import BOOKS, FEED, FORTY, LATE, LOAD, ONE, OTHERS, WIDE
from twoandabell.book.books import Book
from twoandabell.change.entries import idle_keys
from twoandabell.desk.desk import Desk
from twoandabell.errors import (
    InvalidBook, InvalidLoad, InvalidNumber, InvalidOperation, NothingToUndo, ParseError, Parted, TooMany, UnknownName)
from twoandabell.pair.joints import parting_load
from twoandabell.run.loads import chart
from twoandabell.text.books import write_book
from twoandabell.text.loads import write_chart, write_load
from twoandabell.text.shell import Shell
from twoandabell.waits.lengths import longest_wait
from twoandabell.waits.ranks import lead

CALM = FEED.with_entry("lost", 0, (1, "back", "kept"))
SHORT = ("names", "show feed", "drop cpu", "undo 1", "redo 0", "start b feed", "alike feed late", "idle late",
         "wait feed 0 back 3", "lead feed 1 1", "do cpu on", "do cpu -", "show cpu")


def text(book):
    return write_book(book).replace("\n", " ; ")


def some_shell():
    shell = Shell(Desk())
    for line in (f"put feed {text(FEED)}", f"put late {text(LATE)}", "start cpu feed", "do cpu +1 +1 on / on"):
        shell.do(line)
    return shell


def state_of(shell):
    desk = shell.desk
    return (desk.twin(), desk.log, shell.log, desk.processors and [desk.processor_of(name) for name in desk.processors])


class Lines(unittest.TestCase):
    def test_example(self):
        shell = Shell(Desk())
        self.assertEqual(list(shell.results((
            "put feed " + write_book(FEED).replace("\n", " ; "), "start cpu feed", "do cpu +1 +1 on / on",
            "wait feed 0 back 3", "lead feed 1 1", "names")))[2:], ["0 0", "3", "2", "cpu feed"])

    def test_each_line(self):
        shell = Shell(Desk())
        for line, result in (
                ("names", "-"), (f"put feed {text(FEED)}", "done"), (f"put late {text(LATE)}", "done"),
                ("start cpu feed", "done"), ("show cpu", "-"), (f"do cpu {write_load(LOAD[:2])}", "0 2"),
                ("names", "cpu feed late"), ("show feed", text(FEED)), ("show cpu", "0 2"), ("do cpu -", "-"),
                (f"adopt feed {text(CALM)}", "done"), ("show feed", text(CALM)), ("undo 1", "5"), ("undo 0", "5"),
                ("show feed", text(FEED)), ("redo 1", "6"), ("do cpu on / bell / sleep", "0 * 1"), ("show cpu", "0 2 0 * 1"),
                ("alike feed feed", "yes"), ("alike feed late", "3"), ("alike late feed", "3"),
                ("idle feed", "lost 0, takes 0"), ("idle late", "lost 0, takes 0"), ("wait feed 0 back 0", "0"),
                ("wait feed 0 back 9999999999", "9999999999"), ("wait feed 1 back 1", "none"), ("wait feed 1 back 0", "0"),
                ("lead feed 0 1", "none" if lead(CALM, 0, 1) is None else str(lead(CALM, 0, 1))), ("start b late", "done"),
                ("drop cpu", "done"), ("names", "b feed late"), ("do b ^0 on", None), ("drop feed", "done"), ("undo 10", "0"),
                ("names", "-"), ("redo 2", "2"), ("names", "feed late")):
            if result is None:
                with self.assertRaises(InvalidOperation):
                    shell.do(line)
            else:
                self.assertEqual(shell.do(line), result, line)

    def test_as_the_functions_tell(self):
        shell = Shell(Desk())
        for name, book in (("feed", FEED), ("late", LATE), ("one", ONE), ("wide", WIDE)):
            shell.do(f"put {name} {text(book)}")
            self.assertEqual(shell.do(f"show {name}"), text(book))
            self.assertEqual(shell.do(f"idle {name}"), ", ".join(f"{word} {index}" for word, index in idle_keys(book)))
            for rank in range(len(book.ranks)):
                for other in range(len(book.ranks)):
                    right = lead(book, rank, other)
                    self.assertEqual(shell.do(f"lead {name} {rank} {other}"), "none" if right is None else str(right))
        self.assertEqual(shell.do("alike feed one"), str(len(parting_load(FEED, ONE))))
        for others in (0, 1, 2, 10, 9999999999):
            right = longest_wait(WIDE, 0, "front", others)
            self.assertEqual(shell.do(f"wait wide 0 front {others}"), "none" if right is None else str(right))
        shell.do("start cpu wide")
        self.assertEqual(shell.do("do cpu " + write_load(LOAD)), write_chart(chart(WIDE, LOAD)))

    def test_the_least_idle_text(self):
        self.assertEqual(some_shell().do("idle late").split(", ")[-1], "takes 0")


class NoLines(unittest.TestCase):
    def assert_no_line(self, shell, line):
        before = state_of(shell)
        with self.assertRaises(InvalidOperation):
            shell.do(line)
        self.assertEqual(state_of(shell), before)

    def test_values_of_other_kinds(self):
        shell = some_shell()
        for value in (*OTHERS, *BOOKS, LOAD, ["names"], ("names",), b"names"):
            self.assert_no_line(shell, value)

    def test_blanks_and_newlines(self):
        shell = some_shell()
        for line in SHORT:
            for at in [index for index, letter in enumerate(line) if letter == " "]:
                if not (line.startswith("do cpu ") and at > 2):
                    self.assert_no_line(shell, line[:at] + "  " + line[at + 1:])
                    self.assert_no_line(shell, line[:at] + "\t" + line[at + 1:])
                self.assert_no_line(shell, line[:at] + "\n" + line[at + 1:])
            for other in (" " + line, line + "\n", "\n" + line, line.upper(), line.capitalize()):
                self.assert_no_line(shell, other)
            if not line.startswith("do"):
                self.assert_no_line(shell, line + " ")
                self.assert_no_line(shell, line + " feed")
        self.assert_no_line(shell, f"put a {text(FEED)}\n")
        self.assert_no_line(shell, "put a " + write_book(FEED))

    def test_parts(self):
        shell = some_shell()
        for line in (
                "", " ", "name", "namess", "names feed", "put", "put a", "put a ", "put A x", "put  x", "put abcdefghi x",
                "put a1 x", "put ; x", "start", "start b", "start b ", "start b feed late", "start b FEED", "start b feed1",
                "drop", "drop ", "drop Cpu", "adopt feed", "adopt feed ", "adopt feed1 x", "do", "do cpu", "do cpu ", "do CPU on",
                "undo", "undo ", "undo -1", "undo +1", "undo 01", "undo 00", "undo 1.0", "undo x", "undo 12345678901", "undo 1 1",
                "undo none", "redo", "redo 01", "redo 99999999999", "redo 1_0", "show", "show f eed", "alike feed", "alike feed ",
                "alike feed late late", "alike feed L", "idle", "idle feed late", "wait feed 0 back", "wait feed 0 back ",
                "wait feed back 0 1", "wait feed 0 Back 1", "wait feed 0 side 1", "wait feed x back 1", "wait feed 0 back x",
                "wait feed 00 back 1", "wait feed 0 back 12345678901", "wait feed 12345678901 back 1", "wait feed 0 front back 1",
                "lead feed 0", "lead feed 0 1 2", "lead feed 0 x", "lead feed -1 0", "lead feed 0 01", "lead feed 12345678901 0",
                "lead 0 0 0", "wait no 0 side 1", "wait no 0 backs 1", "log", "twin", "kinds", "put;a x", "names;", "bell", "tick on"):
            self.assert_no_line(shell, line)

    def test_numbers_of_ten_digits_are_lines(self):
        shell = some_shell()
        with self.assertRaises(NothingToUndo) as caught:
            shell.do("undo 1234567890")
        self.assertEqual(caught.exception.many, 1234567890)
        with self.assertRaises(InvalidNumber) as caught:
            shell.do("lead feed 0 9876543210")
        self.assertEqual(caught.exception.number, 9876543210)
        self.assertEqual(shell.do("wait feed 0 back 1000000000"), "1000000000")
        self.assertEqual(shell.do("undo 0"), "4")

    def test_names_of_eight_letters(self):
        shell = some_shell()
        self.assertEqual(shell.do("start abcdefgh feed"), "done")
        self.assert_no_line(shell, "start abcdefghi feed")


class Errors(unittest.TestCase):
    def test_texts_and_names(self):
        shell = some_shell()
        for line, error in (
                # A TEXT comes ahead of names, blanks within it and ahead of it included.
                ("put feed x", ParseError), (f"put a  {text(FEED)}", ParseError), (f"put a {text(FEED)} ", ParseError),
                (f"put a {text(FEED).replace(' ; ', ';')}", ParseError), (f"put a {text(FEED).replace(' ; ', ' ;  ')}", ParseError),
                (f"put a {text(FEED)} ; ", ParseError), ("adopt no x", ParseError), (f"adopt feed  {text(FEED)}", ParseError),
                ("do no x", ParseError), ("do no  on", ParseError), ("do cpu on ", ParseError), ("do cpu on  / on", ParseError),
                ("do feed +01 on", ParseError), ("do cpu  ", ParseError), ("do cpu " + " / ".join(["on"] * 401), ParseError),
                (f"put feed {text(FEED)}", InvalidOperation), (f"put cpu {text(FEED)}", InvalidOperation),
                (f"adopt no {text(FEED)}", UnknownName), (f"adopt cpu {text(FEED)}", UnknownName),
                (f"adopt feed {text(WIDE)}", InvalidBook), (f"adopt feed {text(LATE)}", Parted),
                ("start feed no", InvalidOperation), ("start cpu feed", InvalidOperation), ("start a no", UnknownName),
                ("start a cpu", UnknownName), ("drop no", UnknownName), ("drop feed", InvalidOperation),
                ("do no on", UnknownName), ("do feed on", UnknownName), ("do cpu +2 on", InvalidNumber),
                ("do cpu ^0 on", InvalidOperation), ("do cpu " + " / ".join(["on"] * 399), TooMany),
                ("undo 5", NothingToUndo), ("redo 1", NothingToUndo), ("show no", UnknownName),
                ("alike no cpu", UnknownName), ("alike feed no", UnknownName), ("alike feed cpu", UnknownName),
                ("alike cpu feed", UnknownName), ("idle cpu", UnknownName), ("idle no", UnknownName),
                ("wait no 9 front 0", UnknownName), ("wait cpu 0 back 0", UnknownName), ("wait feed 9 back 0", InvalidOperation),
                ("wait feed 0 front 0", InvalidOperation), ("lead no 9 9", UnknownName), ("lead cpu 0 0", UnknownName),
                ("lead feed 2 3", InvalidNumber), ("lead feed 0 3", InvalidNumber)):
            before = state_of(shell)
            with self.assertRaises(error) as caught:
                shell.do(line)
            self.assertIs(type(caught.exception), error, line)
            self.assertEqual(state_of(shell), before)

    def test_what_errors_keep(self):
        shell = some_shell()
        for line, name in (("alike no never", "no"), ("alike feed never", "never"), ("show never", "never"),
                           ("start a never", "never"), ("do never on", "never"), ("lead never 9 9", "never")):
            with self.assertRaises(UnknownName) as caught:
                shell.do(line)
            self.assertEqual(caught.exception.word, name)
        for line, number in (("lead feed 2 3", 2), ("lead feed 1 3", 3)):
            with self.assertRaises(InvalidNumber) as caught:
                shell.do(line)
            self.assertEqual(caught.exception.number, number)
        with self.assertRaises(Parted) as caught:
            shell.do(f"adopt feed {text(LATE)}")
        self.assertEqual(len(caught.exception.load), 3)

    def test_other_numbers_of_ranks_and_too_many(self):
        shell = some_shell()
        shell.do(f"put wide {text(WIDE)}")
        with self.assertRaises(InvalidBook):
            shell.do("alike feed wide")
        book = some_full_book(random.Random(1))
        shell.do(f"put a {text(book)}")
        shell.do(f"put b {text(book.with_entry('ticks', 0, 2))}")
        for line in ("alike a b", "idle a"):
            with self.assertRaises(TooMany) as caught:
                shell.do(line)
            self.assertEqual(caught.exception.limit, 20000)
        for name in ("c", "d"):
            shell.do(f"start {name} a")
        with self.assertRaises(TooMany) as caught:
            shell.do(f"put e {text(FEED)}")
        self.assertEqual(caught.exception.limit, 8)

    def test_no_desk(self):
        for value in (*OTHERS, FEED, Desk, Shell(Desk())):
            with self.assertRaises(InvalidOperation):
                Shell(value)


class Objects(unittest.TestCase):
    def test_the_desk_itself(self):
        desk = Desk()
        shell = Shell(desk)
        self.assertIs(shell.desk, desk)
        shell.do(f"put feed {text(FEED)}")
        self.assertEqual(desk.book_of("feed"), FEED)
        # A step of the desk without a line is seen.
        desk.put("late", LATE)
        self.assertEqual(shell.do("names"), "feed late")
        self.assertEqual(desk.log, (("put", "feed"), ("put", "late")))
        self.assertEqual(shell.log, (f"put feed {text(FEED)}", "names"))
        self.assertEqual((shell.do("undo 2"), desk.books), ("0", ()))
        self.assertEqual((shell.do("redo 1"), shell.do("names"), shell.do("undo 1")), ("1", "feed", "0"))
        for name in ("desk", "log"):
            with self.assertRaises(AttributeError):
                setattr(shell, name, ())

    def test_the_log(self):
        shell = some_shell()
        many = len(shell.log)
        for line in ("undo 9", "names x", "do cpu x"):
            with self.assertRaises((InvalidOperation, NothingToUndo, ParseError)):
                shell.do(line)
        self.assertEqual(len(shell.log), many)
        shell.do("undo 1")
        self.assertEqual(shell.log[many:], ("undo 1",))
        # Two shells of one desk have logs of their own.
        other = Shell(shell.desk)
        self.assertEqual((other.log, other.do("names")), ((), "cpu feed late"))
        self.assertEqual((len(shell.log), len(other.log)), (many + 1, 1))

    def test_results_come_one_after_another(self):
        shell = Shell(Desk())
        results = shell.results((f"put feed {text(FEED)}", "names", "drop no", "names"))
        self.assertEqual((shell.log, len(shell.desk)), ((), 0))
        self.assertEqual((next(results), len(shell.log)), ("done", 1))
        shell.desk.put("late", LATE)
        self.assertEqual(next(results), "feed late")
        with self.assertRaises(UnknownName):
            next(results)
        self.assertEqual(len(shell.log), 2)
        self.assertEqual(list(results), [])
        self.assertEqual(list(shell.results(())), [])

    def test_results_of_what_is_no_tuple(self):
        shell = Shell(Desk())
        for value in (*OTHERS, "names", ["names"], {"names": 1}, FEED):
            if not isinstance(value, tuple):
                results = shell.results(value)
                with self.assertRaises(InvalidOperation):
                    next(results)
        results = shell.results(("names", None))
        self.assertEqual(next(results), "-")
        with self.assertRaises(InvalidOperation):
            next(results)

    def test_no_iteration(self):
        with self.assertRaises(TypeError):
            list(Shell(Desk()))


if __name__ == "__main__":
    unittest.main()
