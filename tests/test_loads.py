"""[0.9] to [0.12] and stage 6: loads, charts, pictures, and where books part."""

import random
import unittest

from tests.reference import some_book, some_books, some_load, told
from tests.samples import BOOKS, FEED, FORTY, FORTY_ONE, HUNDRED, LATE, LOAD, ONE, OTHERS, WIDE
from twoandabell.book.books import Book, Level
from twoandabell.errors import InvalidBook, InvalidLoad, InvalidNumber, Stopped
from twoandabell.run import loads
from twoandabell.run.loads import chart, first_parted, is_load, is_parting, pictures, without_task

NO_BOOKS = (*OTHERS, *FEED.levels, FEED.levels, LOAD)
NO_LOADS = [value for value in OTHERS] + [
    FEED, [LOAD[0]], (LOAD[0], None), LOAD[0], (((),),), (((), "on", 0),), (((), "off"),), (((), None),), (([], "on"),),
    (((("come", 0), ()), "on"),), (((["come", 0],), "on"),), (((("come",),), "on"),), (((("come", 0, 0),), "on"),),
    (((("end", 0),), "on"),), (((("Come", 0),), "on"),), (((("come", -1),), "on"),), (((("come", True),), "on"),),
    (((("wake", None),), "on"),), (((("wake", "0"),), "on"),), (((("wake", FORTY_ONE),), "on"),),
    ((("come", 0), "on"),), (((("come", 0),), ["on"]),), (({"come": 0}, "on"),), ([(), "on"],), ((None, "on"),),
    (((0, "come"), "on"),), ("on",), (((), "on"), [(), "on"]),
]
# What is no load at all; a tuple of nothing is the shortest one.
WRONG_LOADS = [value for value in NO_LOADS if value != ()]


def come(*ranks):
    return tuple(("come", rank) for rank in ranks)


def wake(*tasks):
    return tuple(("wake", task) for task in tasks)


def ticks(*rows):
    """A load, each tick given by its comings and its word, or by its word alone."""
    return tuple(((), row) if isinstance(row, str) else row for row in rows)


def books_of(*levels, ranks):
    return Book(*levels, ranks=ranks)


class Forms(unittest.TestCase):
    def test_constants(self):
        self.assertEqual((loads.MAX_LOAD, loads.MAX_COMINGS, loads.MAX_TASKS), (400, 20, 60))

    def test_ordinary_loads(self):
        for load in ((), LOAD, LOAD[:1], ticks("on", "bell", "sleep", "way", "end"), ticks((come(0, FORTY), "on")),
                     ticks((wake(0, FORTY, 0), "bell"))):
            self.assertIs(is_load(load), True)

    def test_limits(self):
        self.assertIs(is_load((((), "on"),) * 400), True)
        self.assertIs(is_load((((), "on"),) * 401), False)
        self.assertIs(is_load(ticks((come(*[0] * 20), "on"))), True)
        self.assertIs(is_load(ticks((come(*[0] * 21), "on"))), False)
        self.assertIs(is_load(ticks((wake(*[0] * 20), "on"))), True)
        self.assertIs(is_load(ticks((wake(*[0] * 21), "on"))), False)
        self.assertIs(is_load(ticks((come(0) + wake(*[0] * 19), "on"))), True)
        self.assertIs(is_load(ticks((come(0) + wake(*[0] * 20), "on"))), False)
        twenty = (come(*[0] * 20), "on")
        self.assertIs(is_load(ticks(twenty, twenty, twenty)), True)
        self.assertIs(is_load(ticks(twenty, twenty, twenty, (come(0), "on"))), False)
        self.assertIs(is_load(ticks(twenty, twenty, twenty, (wake(*range(20)), "on"))), True)
        # At most sixty come: those that wake are not counted.
        self.assertIs(is_load(ticks(*[(wake(*range(20)), "on")] * 400)), True)
        self.assertIs(is_load(ticks(*[(come(0), "on")] * 60)), True)
        self.assertIs(is_load(ticks(*[(come(0), "on")] * 61)), False)

    def test_parts_of_other_kinds(self):
        for value in WRONG_LOADS:
            self.assertIs(is_load(value), False, value)
        for value in (*OTHERS, FEED):
            self.assertIs(is_load(ticks("on") + (value,)), False)
            self.assertIs(is_load(((value, "on"),)), value == () and type(value) is tuple)
            self.assertIs(is_load((((), value),)), False)
            self.assertIs(is_load((((value,), "on"),)), False)
            self.assertIs(is_load(((((value, 0),), "on"),)), False)
            number = type(value) is int and 0 <= value <= FORTY
            self.assertIs(is_load((((("come", value),), "on"),)), number)
            self.assertIs(is_load((((("wake", value),), "on"),)), number)

    def test_wrong_arguments_in_their_order(self):
        for book in NO_BOOKS:
            for call in (lambda: chart(book, []), lambda: list(pictures(book, [])), lambda: first_parted(book, [], []),
                         lambda: is_parting(book, [], LOAD), lambda: first_parted(FEED, book, []),
                         lambda: is_parting(FEED, book, LOAD), lambda: first_parted(book, FEED, LOAD),
                         lambda: is_parting(book, FEED, LOAD)):
                with self.assertRaises(InvalidBook):
                    call()
        for load in WRONG_LOADS:
            for call in (lambda: chart(FEED, load), lambda: list(pictures(FEED, load)),
                         lambda: first_parted(FEED, LATE, load), lambda: without_task(load, [])):
                with self.assertRaises(InvalidLoad):
                    call()


class Charts(unittest.TestCase):
    def test_examples(self):
        self.assertEqual([chart(FEED, LOAD), chart(LATE, LOAD)], [(0, 2, 0), (0, 2, 1)])
        self.assertEqual(list(pictures(FEED, LOAD))[1], (("ready", 1, 1), ("ready", 1, 2), ("ended",)))
        self.assertEqual(chart(FEED, ticks((come(0), "bell"), "on")), ("bell", 0))
        with self.assertRaises(Stopped) as caught:
            chart(FEED, ticks((come(0) + wake(0), "on")))
        self.assertEqual(caught.exception.index, 0)

    def test_nothing_at_all(self):
        for book in BOOKS:
            self.assertEqual(chart(book, ()), ())
            self.assertEqual(list(pictures(book, ())), [])
            self.assertEqual(chart(book, ticks("on", "sleep", "bell", "end")), (None, None, "bell", None))
            self.assertEqual(list(pictures(book, ticks("on", "bell"))), [(), ()])

    def test_comings_in_their_order(self):
        book = books_of(Level(1, used=(0, "back"), wake=(0, "front", "new"), way=(0, "back", "new"),
                              lost=(0, "back", "new")), ranks=(0,))
        self.assertEqual(chart(book, ticks((come(0, 0, 0), "end"), "end", "end", "on")), (0, 1, 2, None))
        # All fall asleep; then each waker enters at the front, ahead of the comer that comes first.
        asleep = ticks((come(0, 0), "sleep"), "sleep")
        self.assertEqual(chart(book, asleep + ticks((come(0) + wake(0, 1), "end"), "end", "end"))[2:], (1, 0, 2))
        self.assertEqual(chart(book, asleep + ticks((wake(1, 0) + come(0), "end"), "end", "end"))[2:], (0, 1, 2))

    def test_words(self):
        one = ticks((come(0, 0), "on"))
        for word, picture in (("on", ("runs", 0, 1)), ("sleep", ("asleep", 0, 1)), ("way", ("ready", 0, 1)),
                              ("end", ("ended",)), ("bell", ("ready", 0, 2))):
            book = books_of(Level(2, used=(0, "front"), wake=(0, "back", "kept"), way=(0, "back", "kept"),
                                  lost=(0, "back", "new")), ranks=(0,))
            load = ticks((come(0), word))
            self.assertEqual(chart(book, load), ("bell" if word == "bell" else 0,))
            self.assertEqual(list(pictures(book, load)), [(picture,)])
        self.assertEqual(list(pictures(ONE, one)), [(("ready", 0, 1), ("ready", 0, 1))])

    def test_a_used_up_slice(self):
        # It runs on while something is left, then enters by `used`, with a new rest, at the front or at the back.
        for place, charted in (("back", (0, 0, 1, 1, 0)), ("front", (0, 0, 0, 0, 0))):
            book = books_of(Level(2, used=(0, place), wake=(0, "back", "kept"), way=(0, "back", "kept"),
                                  lost=(0, "back", "new")), ranks=(0,))
            load = ticks((come(0, 0), "on"), "on", "on", "on", "on")
            self.assertEqual(chart(book, load), charted)
            self.assertEqual(list(pictures(book, load))[1], (("ready", 0, 2), ("ready", 0, 2)))
        # `way` and `sleep` come ahead of it, with nothing left.
        book = books_of(Level(1, used=(0, "front"), wake=(0, "back", "kept"), way=(0, "back", "kept"),
                              lost=(0, "back", "new")), ranks=(0,))
        load = ticks((come(0, 0), "way"), "sleep", (wake(1), "on"))
        self.assertEqual(list(pictures(book, load)), [
            (("ready", 0, 1), ("ready", 0, 1)), (("ready", 0, 1), ("asleep", 0, 0)),
            (("ready", 0, 1), ("ready", 0, 1))])

    def test_a_level_without_a_slice(self):
        book = books_of(Level.plain(0), ranks=(0,))
        load = ticks((come(0, 0), "on"), *["on"] * 300, "way", "on")
        self.assertEqual(chart(book, load), (0,) * 302 + (1,))
        self.assertEqual(list(pictures(book, load))[300], (("runs", 0, None), ("ready", 0, None)))

    def test_who_is_taken_away_and_who_is_not(self):
        first, second = Level.plain(0, 1), Level.plain(1, 3)
        load = ticks((come(1), "on"), (come(0), "end"), "on")
        taking = books_of(first, second, ranks=(0, 1))
        self.assertEqual(chart(taking, load), (0, 1, 0))
        # Who is taken away enters at the front with what it has left.
        self.assertEqual(list(pictures(taking, load))[1], (("ready", 1, 2), ("ended",)))
        keeping = books_of(first, second.replaced("takes", 0), ranks=(0, 1))
        self.assertEqual(chart(keeping, load), (0, 0, 1))
        self.assertEqual(list(pictures(keeping, load))[1], (("ended",), ("ready", 0, 1)))

    def test_only_levels_less_than_takes_take_away(self):
        levels = (Level.plain(0, 1), Level.plain(1, 1), Level.plain(2, 3))
        load = ticks((come(2), "on"), (come(1), "on"), (come(0), "on"))
        for takes, charted in ((0, (0, 0, 0)), (1, (0, 0, 2)), (2, (0, 1, 2))):
            book = books_of(levels[0], levels[1], levels[2].replaced("takes", takes), ranks=(0, 1, 2))
            self.assertEqual(chart(book, load), charted)

    def test_one_of_the_same_level_takes_nothing_away(self):
        book = books_of(Level.plain(0, 1), Level.plain(1, 3), ranks=(0, 1))
        self.assertEqual(chart(book, ticks((come(1), "on"), (come(1), "on"), "on", "on")), (0, 0, 0, 1))

    def test_a_ready_task_is_not_taken_away_and_the_best_one_is_picked(self):
        self.assertEqual(chart(FEED, ticks((come(1, 1, 0), "sleep"), "end", "end")), (2, 0, 1))

    def test_bells(self):
        # With a running task and nobody better, at takes 1 and at takes 0.
        level = Level(3, used=(1, "back"), wake=(1, "back", "new"), way=(1, "back", "new"), lost=(1, "back", "kept"),
                      takes=1)
        load = ticks((come(0, 0), "on"), "bell", "on")
        taking = books_of(Level.plain(0, 1), level, ranks=(1,))
        self.assertEqual(chart(taking, load), (0, "bell", 1))
        self.assertEqual(list(pictures(taking, load))[1], (("ready", 1, 2), ("ready", 1, 3)))
        keeping = books_of(Level.plain(0, 1), level.replaced("takes", 0), ranks=(1,))
        self.assertEqual(chart(keeping, load), (0, "bell", 0))
        self.assertEqual(list(pictures(keeping, load))[1], (("runs", 1, 2), ("ready", 1, 3)))
        # A better one is ready, but takes is 0; and alone, taken away by a bell and picked again.
        self.assertEqual(chart(books_of(Level.plain(0, 1), level.replaced("takes", 0), ranks=(1, 0)),
                               ticks((come(0), "on"), (come(1), "bell"), "on")), (0, "bell", 0))
        self.assertEqual(chart(taking, ticks((come(0), "on"), "bell", "on", "on")), (0, "bell", 0, 0))

    def test_bells_without_a_running_task(self):
        load = ticks("bell", (come(1, 0), "bell"), "bell", "on")
        self.assertEqual(chart(FEED, load), ("bell", "bell", "bell", 1))
        self.assertEqual(list(pictures(FEED, load))[2], (("ready", 1, 2), ("ready", 0, 1)))

    def test_idle_ticks(self):
        load = ticks("on", (come(0), "sleep"), "on", "end", "bell", (wake(0), "end"), "on")
        self.assertEqual(chart(FEED, load), (None, 0, None, None, "bell", 0, None))
        self.assertEqual(list(pictures(FEED, load)), [
            (), *[(("asleep", 0, 0),)] * 4, (("ended",),), (("ended",),)])

    def test_rests(self):
        # In WIDE who wakes at level 1 comes to the best level, at most with its slice.
        load = ticks((come(2), "sleep"), (wake(0), "on"), "sleep", (wake(0), "bell"))
        self.assertEqual(list(pictures(WIDE, load)), [
            (("asleep", 1, 2),), (("runs", 0, 1),), (("asleep", 0, 0),), (("ready", 0, 2),)])

    def test_long_loads(self):
        twenty = come(*[0, 1] * 10)
        load = ticks((twenty, "on"), (twenty, "way"), (twenty, "sleep"), *["on", "way", "bell", "on"] * 99, "end")
        self.assertEqual(len(load), 400)
        for book in (FEED, LATE, ONE, WIDE, *some_books(20, "long")):
            if len(book.ranks) >= 2:
                charted, shown, stopped = told(book, load)
                self.assertIsNone(stopped)
                self.assertEqual(chart(book, load), charted)
                self.assertEqual(list(pictures(book, load)), shown)
                self.assertEqual(len(shown[-1]), 60)

    def test_many_loads_as_by_the_rules(self):
        source = random.Random("loads")
        for _ in range(400):
            book = some_book(source)
            load = some_load(source, book, source.randint(1, 40), source.randint(1, 8))
            charted, shown, _ = told(book, load)
            self.assertEqual(chart(book, load), charted)
            self.assertEqual(list(pictures(book, load)), shown)


class Stops(unittest.TestCase):
    def test_comings_that_are_not_possible(self):
        running = ticks((come(1, 1), "on"))
        asleep = ticks((come(0, 0), "sleep"), "sleep")
        for start, comings in (
                ((), come(2)), ((), come(FORTY)), ((), wake(0)), (running, come(2)), (running, wake(0)),
                (running, wake(1)), (running, wake(2)), (running, wake(FORTY)), (asleep, wake(2)),
                (asleep, wake(0, 0)), (asleep, wake(0, 1, 0)), (asleep, come(0) + wake(2)), (asleep, come(0, 2)),
                (ticks((come(0), "end")), wake(0)), ((), come(0) + wake(0))):
            self.assert_stopped(FEED, start + ticks((comings, "bell"), (come(9), "on")), len(start))

    def assert_stopped(self, book, load, index):
        with self.assertRaises(Stopped) as caught:
            chart(book, load)
        self.assertEqual(caught.exception.index, index)
        shown = pictures(book, load)
        before = [next(shown) for _ in range(index)]
        self.assertEqual(before, list(pictures(book, load[:index])))
        with self.assertRaises(Stopped) as caught:
            next(shown)
        self.assertEqual(caught.exception.index, index)
        for other in (book, LATE):
            with self.assertRaises(Stopped) as caught:
                first_parted(book, other, load)
            self.assertEqual(caught.exception.index, index)
            self.assertIs(is_parting(book, other, load), False)
            self.assertIs(is_parting(book, other, load[:index + 1]), False)

    def test_who_may_wake(self):
        self.assertEqual(chart(FEED, ticks((come(0, 0), "sleep"), "sleep", (wake(1, 0), "on"), "on")), (0, 1, 1, 0))

    def test_at_random(self):
        source = random.Random("stops")
        for _ in range(300):
            book = some_book(source)
            load = list(some_load(source, book, source.randint(2, 12), 4))
            at = source.randrange(len(load))
            coming = source.choice((("come", source.randrange(4)), ("wake", source.randrange(5))))
            load[at] = (load[at][0] + (coming,), load[at][1])
            charted, shown, stopped = told(book, tuple(load))
            if stopped is None:
                self.assertEqual(chart(book, tuple(load)), charted)
                continue
            with self.assertRaises(Stopped) as caught:
                chart(book, tuple(load))
            self.assertEqual(caught.exception.index, stopped)
            got = pictures(book, tuple(load))
            self.assertEqual([next(got) for _ in shown], shown)
            with self.assertRaises(Stopped):
                next(got)

    def test_pictures_raise_when_the_first_one_is_asked_for(self):
        for book, load, error in ((None, None, InvalidBook), (FEED, None, InvalidLoad),
                                  (FEED, ticks((wake(0), "on")), Stopped)):
            shown = pictures(book, load)
            with self.assertRaises(error):
                next(shown)


class Parting(unittest.TestCase):
    def test_examples(self):
        self.assertEqual([first_parted(FEED, LATE, LOAD), is_parting(FEED, LATE, LOAD)], [2, True])

    def test_at_the_first_tick_later_and_not(self):
        turned = Book.of(FEED.levels, (1, 0))
        self.assertEqual(first_parted(FEED, turned, ticks((come(0, 1), "on"), "on")), 0)
        self.assertIs(is_parting(FEED, turned, ticks((come(0, 1), "on"))), True)
        self.assertIs(is_parting(FEED, turned, ticks((come(0, 1), "on"), "on")), False)
        self.assertIs(is_parting(FEED, LATE, LOAD + ticks("on")), False)
        self.assertEqual(first_parted(FEED, LATE, LOAD + ticks("on", "on")), 2)
        for load in ((), LOAD[:2], ticks("on", "bell"), ticks((come(0), "on"))):
            self.assertIsNone(first_parted(FEED, LATE, load))
            self.assertIs(is_parting(FEED, LATE, load), False)
        for book in BOOKS:
            self.assertIsNone(first_parted(book, book, ticks((come(0, 0), "on"), "on")))
            self.assertIs(is_parting(book, book, ()), False)

    def test_books_with_other_numbers_of_levels(self):
        self.assertEqual(first_parted(ONE, FEED, ticks((come(1, 0), "on"))), 0)
        self.assertIs(is_parting(FEED, ONE, ticks((come(1, 0), "on"))), True)

    def test_ticks_behind_it_are_not_done(self):
        for comings in (come(7), wake(0), wake(9)):
            self.assertEqual(first_parted(FEED, LATE, LOAD + ticks((comings, "on"))), 2)
            self.assertIs(is_parting(FEED, LATE, LOAD + ticks((comings, "on"))), False)
            with self.assertRaises(Stopped) as caught:
                first_parted(FEED, LATE, LOAD[:2] + ticks((comings, "on")))
            self.assertEqual(caught.exception.index, 2)
            self.assertIs(is_parting(FEED, LATE, LOAD[:2] + ticks((comings, "on"))), False)

    def test_books_with_other_numbers_of_ranks(self):
        for other in (WIDE, Book.of(FEED.levels, (0,)), Book.of(FEED.levels, (0, 1, 1))):
            for load in (LOAD, None, ()):
                with self.assertRaises(InvalidBook):
                    first_parted(FEED, other, load)
                with self.assertRaises(InvalidBook):
                    is_parting(FEED, other, load)

    def test_is_parting_raises_nothing_for_its_value(self):
        for value in (*NO_LOADS, *BOOKS, LOAD[2:], ticks((come(5), "on")), ticks((wake(0), "on"))):
            self.assertIs(is_parting(FEED, LATE, value), False)

    def test_many_loads_as_by_the_rules(self):
        source = random.Random("parting")
        parted = 0
        for _ in range(400):
            book = some_book(source, 2)
            key = source.choice(book.entries())
            other = book.with_entry(*key, source.choice(book.values_for(*key)))
            if source.random() < 0.2:
                other = some_book(source, 2)
            load = some_load(source, book, source.randint(1, 25), 4)
            one, two = told(book, load)[0], told(other, load)[0]
            apart = [index for index in range(min(len(one), len(two))) if one[index] != two[index]]
            index = apart[0] if apart else None
            parted += bool(apart)
            self.assertEqual(first_parted(book, other, load), index)
            self.assertEqual(first_parted(other, book, load), index)
            for end in range(len(load) + 1):
                self.assertIs(is_parting(book, other, load[:end]), bool(apart) and end == index + 1)
        self.assertGreater(parted, 100)


class Without(unittest.TestCase):
    def test_example(self):
        self.assertEqual(chart(ONE, without_task(LOAD, 0)), (0, 0, 1))

    def test_numbers(self):
        self.assertEqual(without_task(LOAD, 0), ticks((come(1), "on"), (come(0), "end"), "on"))
        self.assertEqual(without_task(LOAD, 1), without_task(LOAD, 0))
        self.assertEqual(without_task(LOAD, 2), ticks((come(1, 1), "on"), "end", "on"))
        load = ticks((come(0, 1), "on"), (wake(1) + come(2) + wake(0, 2), "way"), (wake(2, 1, 0, FORTY), "bell"))
        self.assertEqual(without_task(load, 0), ticks(
            (come(1), "on"), (wake(0) + come(2) + wake(1), "way"), (wake(1, 0, FORTY - 1), "bell")))
        self.assertEqual(without_task(load, 1), ticks(
            (come(0), "on"), (come(2) + wake(0, 1), "way"), (wake(1, 0, FORTY - 1), "bell")))
        self.assertEqual(without_task(load, 2), ticks(
            (come(0, 1), "on"), (wake(1, 0), "way"), (wake(1, 0, FORTY - 1), "bell")))

    def test_wakers_ahead_of_their_comings(self):
        # Such a load is possible for no book, but it has the form of one.
        self.assertEqual(without_task(ticks((wake(0, 1) + come(0, 0), "on")), 0), ticks((wake(0) + come(0), "on")))

    def test_tasks_that_do_not_come(self):
        for task in (*OTHERS, 3, FORTY, HUNDRED, FEED, ("come", 0)):
            if type(task) is int and task in (0, 1, 2):
                continue
            with self.assertRaises(InvalidNumber) as caught:
                without_task(LOAD, task)
            self.assertIs(caught.exception.number, task)
        for load in ((), ticks("on", "bell"), ticks((wake(0), "on"))):
            with self.assertRaises(InvalidNumber):
                without_task(load, 0)

    def test_sixty_tasks(self):
        load = ticks(*[(come(0), "on")] * 60, (wake(59), "on"))
        self.assertEqual(without_task(load, 0), ticks("on", *[(come(0), "on")] * 59, (wake(58), "on")))
        self.assertEqual(without_task(load, 59), ticks(*[(come(0), "on")] * 59, "on", "on"))
        with self.assertRaises(InvalidNumber):
            without_task(load, 60)


if __name__ == "__main__":
    unittest.main()
