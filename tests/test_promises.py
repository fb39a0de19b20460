"""[0.2] to [0.6] over the whole program: each function and method with its arguments, and with others in their places."""

import copy
import inspect
import unittest

from tests.samples import FEED, FORTY, LATE, LOAD, ONE, OTHERS, WIDE
from tests.test_language import INTERFACE, METHODS
from twoandabell.base import words
from twoandabell.book import books, states
from twoandabell.book.books import Book, Level
from twoandabell.change import entries, fewest, levels
from twoandabell.desk.desk import Desk
from twoandabell.errors import BellError, TooMany, UnknownName
from twoandabell.pair import cuts, joints, stands
from twoandabell.pair.joints import Reach
from twoandabell.pair.stands import FIRST
from twoandabell.run import loads
from twoandabell.run.processors import Processor
from twoandabell.run.queues import Queues
from twoandabell.text import books as texts
from twoandabell.text import loads as load_texts
from twoandabell.text.shell import Shell
from twoandabell.waits import compared, lengths, lives, ranks, waits

CALM = FEED.with_entry("lost", 0, (0, "back", "new"))
OWN_ERRORS = (BellError, UnknownName, TooMany)
TABLE = Reach(ONE, ONE).table
SMALL = (((("come", 0), ("come", 0)), "on"), ((), "on"))
LISTS = [[FEED], {"a": [1]}, [[]], ([1], {0: [2]})]


def worked():
    processor = Processor(FEED)
    processor.do((*LOAD, ((("come", 0),), "sleep")))
    processor.come(1)
    processor.undo()
    return processor


def used_desk():
    desk = Desk()
    desk.put("feed", FEED)
    desk.put("late", LATE)
    desk.start("cpu", "feed")
    desk.do("cpu", LOAD)
    desk.undo()
    return desk


def used_queues():
    queues = Queues(2)
    queues.enter(0, 1, "back")
    queues.enter(4, 0, "front")
    return queues


# Functions with arguments that are right, those by keyword in a dict.
CALLS = [
    (words.is_number, [4], {}), (words.is_place, ["back"], {}), (words.is_rest, ["new"], {}), (words.is_word, ["on"], {}),
    (words.is_entry, ["ticks", 3], {}), (texts.write_book, [FEED], {}), (texts.read_book, [texts.write_book(FEED)], {}),
    (states.is_state, [FEED, (1, 2)], {}), (states.fresh, [FEED, 1], {}), (states.worked, [FEED, (1, 2)], {}),
    (states.moved, [FEED, "way", (1, 1)], {}), (states.moves_alone, [FEED, ("runs", 1, 1)], {}),
    (states.posture_after, [FEED, ("ready", 1, 2), "on"], {}), (states.postures, [FEED], {}),
    (states.way_to, [FEED, ("ready", 1, 1)], {}), (loads.is_load, [LOAD], {}), (loads.chart, [FEED, LOAD], {}),
    (loads.pictures, [FEED, LOAD], {}), (loads.first_parted, [FEED, LATE, LOAD], {}),
    (loads.is_parting, [FEED, LATE, LOAD], {}), (loads.without_task, [LOAD, 1], {}),
    (cuts.two_of, [FEED, LATE, LOAD], {}), (cuts.cut, [FEED, LATE, LOAD], {}), (cuts.kept_ticks, [FEED, LATE, LOAD], {}),
    (stands.is_stand, [FEED, FIRST], {}), (stands.moves_at, [FEED, FIRST], {}), (stands.worker_at, [FEED, FIRST], {}),
    (stands.stand_after, [FEED, FIRST, ("come", 0, 1)], {}), (stands.exchanged, [FEED, FIRST], {}),
    (stands.stand_of, [worked(), 0, 1], {}), (stands.load_of, [(("come", 0, 1), ("bell",))], {}),
    (joints.alike, [FEED, LATE], {}), (joints.parting_load, [FEED, LATE], {}), (joints.paper, [ONE, ONE], {}),
    (joints.is_table, [ONE, ONE, TABLE], {}), (joints.is_paper, [ONE, ONE, ("alike", TABLE)], {}),
    (entries.matters, [ONE, ("used", 0)], {}), (entries.idle_keys, [ONE], {}), (entries.entry_paper, [ONE, ("used", 0)], {}),
    (entries.is_entry_paper, [FEED, ("takes", 0), ("idle", ())], {}), (entries.are_free, [ONE, (("takes", 0),)], {}),
    (levels.reached, [FEED], {}), (levels.counts, [FEED, ("lost", 0)], {}), (levels.trimmed, [FEED], {}),
    (levels.without, [Book(*FEED.levels, ranks=(0, 0)), 1], {}), (levels.joined, [FEED, 0], {}),
    (levels.join_paper, [FEED, 0], {}), (lives.doors, [FEED], {}), (lives.first_stands, [FEED, 0, "back"], {"runs": True}),
    (lives.steps_from, [FEED, 0, ("out",)], {}), (lives.most_work, [FEED, 0, "back"], {"runs": False}),
    (lives.life_paper, [FEED, 1, "back"], {"runs": False}),
    (lives.is_life_paper, [FEED, 1, "back", ("endless", (("ready", 0, 1), ()), (("way",),))], {"runs": False}),
    (lengths.waits_in, [FEED, LOAD], {}), (lengths.wait_line, [FEED, 0, "back"], {}),
    (lengths.longest_wait, [FEED, 0, "back", 3], {}), (waits.wait_load, [FEED, 1, "back", 2], {"least": 7}),
    (waits.is_wait_load, [FEED, 0, "back", 1, (SMALL, 1)], {"least": None}), (ranks.is_ahead, [FEED, 0, 1], {}),
    (ranks.ahead_paper, [FEED, 0, 1], {}), (ranks.is_ahead_paper, [FEED, 0, 1, ("works", SMALL)], {}),
    (ranks.lead, [ONE, 0, 1], {}), (ranks.lead_paper, [ONE, 0, 1], {}), (ranks.is_lead_paper, [ONE, 0, 1, None], {}),
    (fewest.fewest_changes, [FEED, LATE], {}), (fewest.change_paper, [ONE, ONE], {}),
    (fewest.is_change_paper, [ONE, ONE, ((), TABLE, ())], {}), (compared.compared_waits, [FEED, ONE, 0, "back"], {}),
    (compared.bounding_changes, [FEED, 1, "back"], {}), (load_texts.write_load, [LOAD], {}),
    (load_texts.write_chart, [(0, None, "bell")], {}), (load_texts.read_load, ["+0 on"], {}),
    (load_texts.read_chart, ["0 . *"], {}),
]
# Methods of objects, each made anew, with arguments that are right.
OBJECTS = [
    (lambda: FEED.levels[0], [("replaced", ["ticks", 2], {}), ("__getitem__", ["used"], {}), ("__contains__", ["way"], {}),
                              ("__eq__", [LATE.levels[0]], {}), ("__str__", [], {})]),
    (lambda: FEED, [("entries", [], {}), ("with_entry", ["ticks", 0, 2], {}), ("values_for", ["used", 0], {}),
                    ("__getitem__", [("used", 0)], {}), ("__contains__", [("used", 0)], {}), ("__sub__", [LATE], {}),
                    ("__eq__", [LATE], {}), ("__len__", [], {}), ("__str__", [], {})]),
    (used_queues, [("enter", [7, 0, "back"], {}), ("leave", [4], {}), ("pick", [], {}), ("__getitem__", [1], {}),
                   ("tasks", [], {}), ("__len__", [], {}), ("__bool__", [], {}), ("__contains__", [4], {}),
                   ("level_of", [0], {}), ("is_ahead", [4, 0], {}), ("twin", [], {}), ("__eq__", [Queues(2)], {}),
                   ("__str__", [], {})]),
    (worked, [("come", [0], {}), ("wake_up", [3], {}), ("tick", ["on"], {}), ("bell", [], {}), ("do", [LOAD], {}),
              ("__len__", [], {}), ("__getitem__", [0], {}), ("__contains__", [0], {}), ("queues", [], {}),
              ("undo", [], {"many": 2}), ("redo", [], {"many": 1}), ("twin", [], {}), ("__iadd__", [1], {}),
              ("__eq__", [Processor(FEED)], {}), ("__str__", [], {})]),
    (lambda: Reach(ONE, ONE), [("__len__", [], {}), ("__contains__", [(FIRST, FIRST)], {}),
                               ("__getitem__", [(FIRST, FIRST)], {}), ("layer", [1], {})]),
    (used_desk, [("put", ["new", ONE], {}), ("start", ["new", "late"], {}), ("drop", ["late"], {}), ("do", ["cpu", LOAD], {}),
                 ("adopt", ["feed", CALM], {}), ("book_of", ["feed"], {}), ("processor_of", ["cpu"], {}),
                 ("followed_by", ["cpu"], {}), ("kinds", [], {}), ("undo", [], {"many": 2}), ("redo", [], {"many": 1}),
                 ("twin", [], {}), ("__eq__", [Desk()], {}), ("__len__", [], {}), ("__contains__", ["cpu"], {}),
                 ("__str__", [], {})]),
    (lambda: Shell(used_desk()), [("do", ["names"], {}), ("results", [("names", "undo 1")], {})]),
]
CLASSES = [
    (Level, [2], {"used": (0, "back"), "wake": (0, "back", "new"), "way": (0, "back", "new"), "lost": (0, "back", "new"),
                  "takes": 0}),
    (Level.plain, [1, 2], {}), (Book, list(FEED.levels), {"ranks": (0, 1)}), (Book.of, [FEED.levels, (0, 1)], {}),
    (Queues, [2], {}), (Processor, [FEED], {}), (Reach, [ONE, ONE], {}), (Shell, [Desk()], {}),
]


def told(call, arguments, more):
    """What a call returns, a generator whole, or which error of the package it raises; any other error is none."""
    try:
        result = call(*arguments, **more)
        return list(result) if hasattr(result, "__next__") else result
    except OWN_ERRORS as error:
        return type(error)


def is_same(one, two):
    return one == two if isinstance(one, (Book, Level, Queues, Processor, Desk)) else repr(shown(one)) == repr(shown(two))


def shown(value):
    """A value with the texts of its objects in their places, so that `repr` tells equal ones."""
    if isinstance(value, (Book, Level, Queues, Processor, Desk, Reach, Shell)):
        return (type(value).__name__, texts.write_book(value) if isinstance(value, Book) else str(value).split(" at ")[0])
    if isinstance(value, (tuple, list)):
        return [type(value).__name__, *[shown(part) for part in value]]
    if isinstance(value, dict):
        return {key: shown(part) for key, part in value.items()}
    return value


def every_call():
    """All functions, classes and methods with their arguments; a method is given by a function of a new object."""
    calls = [*CALLS, *CLASSES]
    for make, methods in OBJECTS:
        for name, arguments, more in methods:
            calls.append((lambda *given, make=make, name=name, **named: getattr(make(), name)(*given, **named),
                          arguments, more))
    return calls


class Completeness(unittest.TestCase):
    def test_each_function_is_here(self):
        here = {(function.__module__, function.__name__) for function, _, _ in CALLS}
        for module, names in INTERFACE.items():
            for name in names.split():
                if module != "errors" and not name[0].isupper():
                    self.assertIn(("twoandabell." + module, name), here)

    def test_each_method_is_here(self):
        here = {(type(make()).__name__, name) for make, methods in OBJECTS for name, _, _ in methods}
        for (_, owner), names in METHODS.items():
            for name in names.split():
                kind = {"Level": Level, "Book": Book, "Queues": Queues, "Processor": Processor, "Reach": Reach,
                        "Desk": Desk, "Shell": Shell}[owner]
                if not isinstance(vars(kind)[name], property) and name not in ("of", "plain", "trial", "during", "__iter__"):
                    self.assertIn((owner, name), here)


class Everything(unittest.TestCase):
    def test_right_arguments_raise_no_error(self):
        for call, arguments, more in every_call():
            self.assertFalse(isinstance(told(call, arguments, more), type), (call, arguments))

    def test_equal_calls_return_equal_results(self):
        for call, arguments, more in every_call():
            self.assertTrue(is_same(told(call, arguments, more), told(call, arguments, more)))

    def test_arguments_are_not_changed(self):
        for call, arguments, more in every_call():
            for place in range(len(arguments)):
                for value in (arguments[place], *LISTS):
                    given = [*arguments[:place], value, *arguments[place + 1:]]
                    before = shown(copy.deepcopy(given))
                    told(call, given, more)
                    self.assertEqual(shown(given), before)

    def test_other_values_at_each_place(self):
        # Whatever stands there, nothing is raised but errors of the package; what only judges a value raises none.
        for call, arguments, more in every_call():
            judges = "value" in inspect.signature(call).parameters
            for place in range(len(arguments)):
                for value in (*OTHERS, FEED, FEED.levels[0], worked(), used_queues(), Desk(), FORTY):
                    result = told(call, [*arguments[:place], value, *arguments[place + 1:]], more)
                    if judges and place == len(arguments) - 1:
                        self.assertIsInstance(result, bool)
            for name in more:
                for value in (*OTHERS, FEED):
                    told(call, arguments, {**more, name: value})

    def test_the_first_error_is_raised(self):
        # With a wrong value at a place, those behind it are not looked at.
        for call, arguments, more in every_call():
            for place in range(len(arguments)):
                for value in (None, [], -1, "", FORTY):
                    first = told(call, [*arguments[:place], value, *arguments[place + 1:]], more)
                    if not isinstance(first, type) or len(arguments) == place + 1:
                        continue
                    behind = told(call, [*arguments[:place], value, *[{}] * (len(arguments) - place - 1)], more)
                    self.assertIs(behind, first, (call, place, value))

    def test_errors_change_nothing(self):
        for make, methods in OBJECTS:
            for name, arguments, more in methods:
                for place in range(len(arguments)):
                    for value in (*OTHERS, FEED):
                        held, same = make(), make()
                        result = told(getattr(held, name), [*arguments[:place], value, *arguments[place + 1:]], more)
                        if isinstance(result, type) and isinstance(held, (Queues, Processor, Desk)):
                            self.assertEqual(held, same)
                            self.assertEqual(getattr(held, "log", None), getattr(same, "log", None))

    def test_classes_can_be_made_of_equal_arguments(self):
        for call, arguments, more in CLASSES:
            self.assertFalse(isinstance(told(call, arguments, more), type))


class Equality(unittest.TestCase):
    def test_every_value_can_be_compared(self):
        for make, _ in OBJECTS:
            held = make()
            for value in (*OTHERS, FEED, FEED.levels[0], worked(), used_queues(), Desk(), WIDE):
                self.assertIsInstance(held == value, bool)
                self.assertIs(held != value, not held == value)

    def test_members(self):
        for make, _ in OBJECTS[:-1]:
            held = make()
            for value in (*OTHERS, FEED, worked(), used_queues(), Desk(), FIRST):
                self.assertIsInstance(value in held, bool)

    def test_what_can_be_iterated_over(self):
        for make, _ in OBJECTS:
            held = make()
            if isinstance(held, (Book, Desk)):
                self.assertEqual(len(list(held)), len(held))
            else:
                with self.assertRaises(TypeError):
                    list(held)


if __name__ == "__main__":
    unittest.main()
