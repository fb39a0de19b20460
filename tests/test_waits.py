"""[14.1], [14.2] and [0.14]: waits in loads, how long they can be, and loads in which they are so long."""

import random
import unittest

from tests.reference import Scheduler, some_book, some_full_book, some_load
from tests.samples import BOOKS, FEED, FORTY, FORTY_ONE, LATE, LOAD, ONE, OTHERS, WIDE
from twoandabell.book.books import Book
from twoandabell.book.states import way_to
from twoandabell.errors import InvalidBook, InvalidLoad, InvalidNumber, InvalidOperation, Stopped
from twoandabell.run.loads import chart, is_load
from twoandabell.text.books import read_book
from twoandabell.waits import waits
from twoandabell.waits.lengths import longest_wait, wait_line, waits_in
from twoandabell.waits.lives import doors, most_work
from twoandabell.waits.waits import is_wait_load, wait_load

NO_BOOKS = (*OTHERS, *FEED.levels, FEED.levels, LOAD)
SMALL = (((("come", 0), ("come", 0)), "on"), ((), "on"))
# A task that runs at the worse level can work twice ahead of one at the better level, one that comes only once.
RUNNING = read_book("""ranks 0 1
level ticks 1, used 0 back, wake 0 back new, way 0 back new, lost 0 back new, takes 0
level ticks 3, used 1 front, wake 1 back new, way 1 back new, lost 1 front kept, takes 0""")
# Who wakes at the worse level enters the better one at the front, and works there twice.
TWICE = read_book("""ranks 0 1
level ticks 2, used 0 back, wake 0 back new, way 0 back new, lost 0 back new, takes 0
level ticks 1, used 1 back, wake 0 front new, way 1 back new, lost 1 front kept, takes 0""")
# Who wakes enters at the front, ahead of those that wait there.
FRONT = read_book("""ranks 0
level ticks 2, used 0 back, wake 0 front new, way 0 back new, lost 0 back new, takes 0""")
# As FRONT, but a task that has slept is asleep just as before.
SLEEPY = FRONT.with_entry("ticks", 0, 1)
# Among others those wait longest that come from the worst level, with nothing left; this is soonest by a bell.
ROUND = read_book("""ranks 1 2 0
level ticks 3, used 2 back, wake 0 back new, way 2 back new, lost 0 back new, takes 0
level ticks 2, used 2 back, wake 2 back new, way 2 back new, lost 2 back kept, takes 1
level ticks 3, used 2 back, wake 0 front kept, way 2 back new, lost 2 back kept, takes 0""")
# Only a task that runs on at first works without end.
FOREVER = read_book("""ranks 0 1
level ticks 1, used 1 back, wake 0 back new, way 1 back new, lost 0 back new, takes 0
level ticks none, used 1 back, wake 1 back new, way 1 back new, lost 1 front kept, takes 0""")
CLOSED = Book(*FEED.levels, ranks=(0, 0))
MANY_BOOKS = [FEED, LATE, ONE, WIDE, RUNNING, TWICE, FRONT, SLEEPY, ROUND, FOREVER]


def many_open(many, seed):
    """So many open books, of one, two and three levels, some with slices of three at each."""
    source, found = random.Random(seed), []
    while len(found) < many:
        book = some_full_book(source) if source.random() < 0.2 else some_book(source)
        if book.is_open:
            found.append(book)
    return found


OPEN = [book for book in MANY_BOOKS if book.is_open] + many_open(90, "open")


def waits_told(book, load):
    """The waits of a load by a scheduler, each followed on its own."""
    scheduler, works, begun = Scheduler(book), [], []
    for tick, (comings, word) in enumerate(load):
        for kind, number in comings:
            if kind == "come":
                begun.append((tick, len(scheduler.tasks), book["come", number], "back"))
            else:
                begun.append((tick, number, *book["wake", scheduler.tasks[number].level][:2]))
            scheduler.tick_ahead((kind, number))
        works.append(scheduler.tick((), word))
    found = []
    for tick, task, level, place in begun:
        own = [index for index in range(tick, len(works)) if works[index] == task and works[index] != "bell"]
        end = own[0] if own else len(works)
        others = [worker for worker in works[tick:end] if worker not in (None, "bell")]
        found.append((tick, task, level, place, len(others), bool(own)))
    return tuple(found)


class Waits(unittest.TestCase):
    def test_example(self):
        self.assertEqual(waits_in(FEED, LOAD)[1], (0, 1, 1, "back", 3, False))
        self.assertEqual(waits_in(FEED, LOAD), (
            (0, 0, 1, "back", 0, True), (0, 1, 1, "back", 3, False), (1, 2, 0, "back", 0, True)))

    def test_nothing(self):
        for book in BOOKS:
            self.assertEqual(waits_in(book, ()), ())
            self.assertEqual(waits_in(book, (((), "on"), ((), "bell"))), ())

    def test_bells_and_idle_ticks_do_not_count(self):
        load = (((), "on"), ((("come", 0), ("come", 0)), "bell"), ((), "on"), ((), "bell"), ((), "on"))
        self.assertEqual(chart(ONE, load), (None, "bell", 0, "bell", 1))
        self.assertEqual(waits_in(ONE, load), ((1, 0, 0, "back", 0, True), (1, 1, 0, "back", 1, True)))

    def test_wakings_by_their_doors(self):
        load = (((("come", 0),), "sleep"), ((("come", 0),), "on"), ((("wake", 0),), "on"), ((), "on"))
        self.assertEqual(chart(FRONT, load), (0, 1, 1, 0))
        self.assertEqual(waits_in(FRONT, load), (
            (0, 0, 0, "back", 0, True), (1, 1, 0, "back", 0, True), (2, 0, 0, "front", 1, True)))
        # The task wakes by the entry of the level at which it fell asleep.
        load = (((("come", 1),), "sleep"), ((("come", 0), ("wake", 0)), "end"), ((), "bell"))
        self.assertEqual(waits_in(WIDE, load)[2], (1, 0, 1, "front", 1, False))

    def test_standing_ready_again_is_no_wait(self):
        # Behind a used slice, a way and a loss.
        for load in ((((("come", 0), ("come", 0)), "on"), ((), "on"), ((), "on")),
                     (((("come", 1), ("come", 1)), "way"), ((), "way"), ((), "on")),
                     (((("come", 1), ("come", 1)), "on"), ((("come", 0),), "end"), ((), "on"))):
            self.assertEqual(len(waits_in(FEED, load)), sum(len(comings) for comings, _ in load))

    def test_several_in_one_tick_in_their_order(self):
        load = (((("come", 0), ("come", 1), ("come", 0)), "sleep"), ((), "sleep"), ((), "on"),
                ((("wake", 2), ("wake", 0)), "on"))
        self.assertEqual([wait[:4] for wait in waits_in(FEED, load)], [
            (0, 0, 0, "back"), (0, 1, 1, "back"), (0, 2, 0, "back"), (3, 2, 0, "back"), (3, 0, 0, "back")])

    def test_many(self):
        source = random.Random("waits")
        for _ in range(250):
            book = some_book(source)
            load = some_load(source, book, source.randint(1, 30), 6)
            self.assertEqual(waits_in(book, load), waits_told(book, load))

    def test_errors(self):
        for book in NO_BOOKS:
            with self.assertRaises(InvalidBook):
                waits_in(book, None)
        for load in (*OTHERS, FEED, [LOAD[0]], (((), "off"),), (((), "on"),) * 401):
            if load != ():
                with self.assertRaises(InvalidLoad):
                    waits_in(FEED, load)
        for load, index in (((*LOAD, ((("wake", 0),), "on")), 3), ((((("come", 2),), "on"),), 0),
                            ((((), "on"), ((("come", 0), ("wake", 0)), "on"), ((("come", 9),), "on")), 1)):
            with self.assertRaises(Stopped) as caught:
                waits_in(FEED, load)
            self.assertEqual(caught.exception.index, index)


class Lines(unittest.TestCase):
    def test_examples(self):
        self.assertEqual([wait_line(FEED, 0, "back"), wait_line(FEED, 1, "back"), longest_wait(FEED, 0, "back", 9)],
                         [(1, 0), None, 9])

    def test_by_hand(self):
        # At the better level b, of one that runs on at the worse one, is greater than a.
        self.assertEqual([most_work(RUNNING, 0, "back", runs=runs) for runs in (False, True)], [1, 2])
        self.assertEqual([wait_line(RUNNING, level, "back") for level in (0, 1)], [(1, 1), None])
        self.assertEqual([longest_wait(RUNNING, 0, "back", others) for others in range(4)], [0, 2, 3, 4])
        # Equal ones, and a lesser one: in ONE nobody runs on.
        same = RUNNING.with_entry("ticks", 1, 2)
        self.assertEqual([most_work(same, 0, "back", runs=runs) for runs in (False, True)], [1, 1])
        self.assertEqual(wait_line(same, 0, "back"), (1, 0))
        self.assertEqual([most_work(ONE, 0, "back", runs=runs) for runs in (False, True)], [1, 0])
        self.assertEqual(wait_line(ONE, 0, "back"), (1, 0))
        # At the front only those are ahead that wake to the front as well, and one that runs.
        self.assertEqual([most_work(TWICE, 0, "front", runs=runs) for runs in (False, True)], [2, 1])
        self.assertEqual([longest_wait(TWICE, 0, "front", others) for others in range(4)], [0, 2, 4, 6])

    def test_from_the_lives(self):
        found = set()
        for book in OPEN:
            for door in doors(book):
                line, most = wait_line(book, *door), [most_work(book, *door, runs=runs) for runs in (False, True)]
                if None in most:
                    self.assertIsNone(line)
                else:
                    self.assertEqual(line, (most[0], max(0, most[1] - most[0])))
                    found.add(most[1] > most[0])
                for others in (1, 2, 7, FORTY):
                    right = None if None in most else max(others * most[0], (others - 1) * most[0] + most[1])
                    self.assertEqual(longest_wait(book, *door, others), right)
                self.assertEqual(longest_wait(book, *door, 0), 0)
        self.assertEqual(found, {False, True})

    def test_no_load_has_a_longer_wait(self):
        source = random.Random("bounds")
        for _ in range(150):
            book = some_book(source)
            load = some_load(source, book, 40, source.randint(1, 5))
            others = sum(word == "come" for comings, _ in load for word, _ in comings) - 1
            for _, _, level, place, length, _ in waits_in(book, load):
                longest = longest_wait(book, level, place, others)
                self.assertTrue(longest is None or length <= longest)

    def test_errors_in_their_order(self):
        for book in NO_BOOKS:
            for function in (wait_line, lambda *door: longest_wait(*door, None)):
                with self.assertRaises(InvalidBook):
                    function(book, None, None)
        for level, place in ((2, "back"), (0, "front"), (True, "back"), (False, "back"), (None, "back"), (0, None),
                             (0, 0), ([], "back"), (0, ["back"]), (FORTY, "back"), (-1, "back"), (FEED, FEED)):
            for function in (wait_line, lambda *door: longest_wait(*door, None)):
                with self.assertRaises(InvalidOperation):
                    function(FEED, level, place)
        for others in (*OTHERS, FEED):
            if not (type(others) is int and 0 <= others < FORTY_ONE):
                for level in (0, 1):
                    with self.assertRaises(InvalidNumber) as caught:
                        longest_wait(FEED, level, "back", others)
                    self.assertIs(caught.exception.number, others)


def leasts(book, door, others):
    """Some values of `least` that can be asked for at a door."""
    return (None,) if others == 0 or wait_line(book, *door) is not None else (1, 2, 9, 40)


class Loads(unittest.TestCase):
    def test_examples(self):
        self.assertEqual(waits.MOST_OTHERS, 4)
        self.assertEqual(
            [chart(FEED, SMALL), is_wait_load(FEED, 0, "back", 1, (SMALL, 1)),
             is_wait_load(FEED, 0, "back", 2, (SMALL, 1))], [(0, 1), True, False])

    def test_each_door(self):
        kinds = set()
        for book in OPEN:
            for door in doors(book):
                line = wait_line(book, *door)
                for others in range(5):
                    for least in leasts(book, door, others):
                        found = wait_load(book, *door, others, least=least)
                        self.assertIs(is_wait_load(book, *door, others, found, least=least), True)
                        self.assert_right(book, door, others, least, found)
                kinds.add((len(book), door[1], line is None, line is not None and line[1] > 0))
        self.assertTrue({(2, "back", False, True), (3, "back", False, True), (3, "front", False, True)} <= kinds)
        self.assertTrue({(levels, place, True, False) for levels in (1, 2, 3) for place in ("back", "front")} <= kinds)
        self.assertTrue({(2, "back", False, False), (3, "back", False, False), (2, "front", False, False)} <= kinds)

    def assert_right(self, book, door, others, least, found):
        """By a scheduler, and by the letter of the document."""
        load, task = found
        self.assertTrue(is_load(load) and len(load) <= 400)
        self.assertEqual(sum(word == "come" for comings, _ in load for word, _ in comings), others + 1)
        last = [wait for wait in waits_told(book, load) if wait[1] == task][-1]
        self.assertEqual((last[2:4], last[5]), (door, True))
        if least is None:
            self.assertEqual(last[4], longest_wait(book, *door, others))
        else:
            self.assertGreaterEqual(last[4], least)

    def test_several_others_that_begin_in_other_ways(self):
        # One runs at first, the others are asleep with nothing left, to which the soonest way is by a loss.
        self.assertEqual((wait_line(ROUND, 0, "front"), way_to(ROUND, ("asleep", 2, 0))), ((3, 2), (0, ("on", "lost", "sleep"))))
        load, task = wait_load(ROUND, 0, "front", 3)
        last = [wait for wait in waits_told(ROUND, load) if wait[1] == task][-1]
        self.assertEqual(last[2:], (0, "front", 11, True))
        self.assertIn("bell", [word for _, word in load])
        # Others have a bound, and only those that run on at first have none.
        self.assertEqual([most_work(FOREVER, 0, "back", runs=runs) for runs in (False, True)], [1, None])
        self.assertEqual([most_work(SLEEPY, 0, "front", runs=runs) for runs in (False, True)], [None, 0])
        for book, place in ((FOREVER, "back"), (SLEEPY, "front")):
            for least in (1, 2, 40):
                found = wait_load(book, 0, place, 3, least=least)
                self.assert_right(book, (0, place), 3, least, found)

    def test_other_pairs(self):
        for load, task in (
                (SMALL, 1), ((((), "on"), ((), "bell"), *SMALL), 1), ((*SMALL, ((), "bell"), ((), "on")), 1),
                ((((("come", 0), ("come", 0)), "bell"), ((), "bell"), ((), "on"), ((), "end")), 1),
                # Waits of the same task ahead of the last one, by this door and by another one.
                ((((("come", 1), ("come", 1)), "sleep"), ((), "sleep"), ((("wake", 0), ("wake", 1)), "on"),
                  ((), "on")), 1),
                ((((("come", 0),), "sleep"), ((("come", 0), ("wake", 0)), "on"), ((), "on")), 0)):
            self.assertIs(is_wait_load(FEED, 0, "back", 1, (load, task)), True, load)

    def test_without_a_bound(self):
        load = (((("come", 0), ("come", 1)), "way"), ((), "way"), ((), "way"), ((), "end"), ((), "on"))
        self.assertEqual(chart(FEED, load), (0, 0, 0, 0, 1))
        for least in range(1, 41):
            self.assertIs(is_wait_load(FEED, 1, "back", 1, (load, 1), least=least), least <= 4)
        self.assertIs(is_wait_load(FEED, 1, "back", 1, (load, 0), least=1), False)
        self.assertIs(is_wait_load(FEED, 1, "back", 0, ((((("come", 1),), "on"),), 0)), True)

    def test_pairs_with_one_part_changed(self):
        longer = (((("come", 0), ("come", 0), ("come", 0)), "on"), ((), "on"), ((), "on"))
        for value in (
                (SMALL, 0), (SMALL, 2), (SMALL, -1), (SMALL, True), (SMALL, None), (SMALL, "1"), (SMALL[:1], 1),
                (SMALL[1:], 1), (longer, 2), (longer, 1), (SMALL,), (SMALL, 1, None), [SMALL, 1], (1, SMALL),
                (list(SMALL), 1), ((*SMALL, ((("wake", 1),), "on")), 1), ((*SMALL, ((("wake", 5),), "on")), 1),
                # The wait is too short, by another door, not the last one, or not over.
                ((((("come", 0),), "on"), ((("come", 0),), "on")), 1),
                ((((("come", 0), ("come", 1)), "on"), ((), "on")), 1),
                ((((("come", 0), ("come", 0)), "on"), ((), "sleep"), ((("wake", 1),), "on")), 1),
                ((((("come", 0), ("come", 0)), "on"), ((), "bell")), 1),
                ((((("come", 0), ("come", 2)), "on"), ((), "on")), 1), *OTHERS, FEED, LOAD, (None, None), ((), 0)):
            self.assertIs(is_wait_load(FEED, 0, "back", 1, value), False, value)
        self.assertIs(is_wait_load(FEED, 0, "back", 2, (longer, 2)), True)
        self.assertIs(is_wait_load(FEED, 0, "back", 3, (longer, 2)), False)
        # Without other tasks there is nothing to wait for.
        self.assertIs(is_wait_load(FEED, 0, "back", 0, ((((("come", 0),), "on"),), 0)), True)
        self.assertIs(is_wait_load(FEED, 0, "back", 0, ((((("come", 1),), "on"),), 0)), False)

    def test_found_pairs_with_one_part_changed(self):
        for book in OPEN[::4]:
            for door in doors(book):
                for others in (1, 3):
                    least = leasts(book, door, others)[-1]
                    load, task = wait_load(book, *door, others, least=least)
                    for value in ((load[1:], task), (load, task + 1 + others), (load, str(task)), (load, None),
                                  ((*load, ((("come", 0),), "on")), task), (load + (((), "off"),), task)):
                        self.assertIs(is_wait_load(book, *door, others, value, least=least), False)
                    for other in range(others + 1):
                        right = [wait for wait in waits_told(book, load) if wait[1] == other][-1]
                        length = longest_wait(book, *door, others)
                        fits = right[2:4] == door and right[5] and (
                            right[4] == length if least is None else right[4] >= least)
                        self.assertIs(is_wait_load(book, *door, others, (load, other), least=least), fits)


class Errors(unittest.TestCase):
    def assert_refused(self, error, *arguments, **more):
        for function in (wait_load, lambda *given, **least: is_wait_load(*given, None, **least)):
            with self.assertRaises(error) as caught:
                function(*arguments, **more)
        return caught.exception

    def test_in_their_order(self):
        for book in NO_BOOKS:
            self.assert_refused(InvalidBook, book, None, None, None, least=0)
        for level, place in ((2, "back"), (0, "front"), (True, "back"), (None, "back"), (0, 0), ([], []), (FEED, {})):
            self.assert_refused(InvalidOperation, FEED, level, place, None, least=0)
        for others in (*OTHERS, 5, FEED):
            if not (type(others) is int and 0 <= others <= 4):
                self.assertIs(self.assert_refused(InvalidNumber, CLOSED, 0, "back", others, least=0).number, others)
        for least in (*OTHERS, 41, 0, FEED):
            if least is not None and not (type(least) is int and 1 <= least <= 40):
                self.assertIs(self.assert_refused(InvalidNumber, CLOSED, 0, "back", 1, least=least).number, least)

    def test_books_that_are_not_open(self):
        self.assertFalse(CLOSED.is_open)
        for others in range(5):
            for least in (None, 1, 40):
                self.assert_refused(InvalidOperation, CLOSED, 0, "back", others, least=least)

    def test_least(self):
        for least in (1, 40):
            self.assert_refused(InvalidOperation, FEED, 0, "back", 1, least=least)
            self.assert_refused(InvalidOperation, FEED, 0, "back", 0, least=least)
            self.assert_refused(InvalidOperation, FEED, 1, "back", 0, least=least)
        for others in range(1, 5):
            self.assert_refused(InvalidOperation, FEED, 1, "back", others)
            self.assert_refused(InvalidOperation, FEED, 1, "back", others, least=None)
        self.assertEqual(wait_load(FEED, 1, "back", 0)[1], 0)

    def test_positions(self):
        with self.assertRaises(TypeError):
            wait_load(FEED, 1, "back", 1, 1)


if __name__ == "__main__":
    unittest.main()
