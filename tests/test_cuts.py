"""[8.1] to [8.3]: loads cut to two tasks."""

import random
import unittest

from tests.reference import Scheduler, lost_pair, parted_loads, some_load, some_pair, told
from tests.samples import BOOKS, FEED, FORTY, LATE, LOAD, ONE, OTHERS, WIDE
from twoandabell.book.books import Book
from twoandabell.errors import InvalidBook, InvalidLoad
from twoandabell.pair.cuts import cut, kept_ticks, two_of
from twoandabell.run.loads import chart, is_parting

LONGER = (((("come", 0),), "on"), ((), "on"), ((), "end")) + LOAD
FUNCTIONS = (two_of, cut, kept_ticks)
PARTED = parted_loads(100, "cuts") + parted_loads(100, "lost", 40, 6, lost_pair)


def taken_away(book, load):
    """For each tick of a load the task that runs at its beginning and is taken away in it, or `None`."""
    scheduler, found = Scheduler(book), []
    for comings, word in load:
        runner = scheduler.running()
        level = None if runner is None else scheduler.tasks[runner].level
        worker = scheduler.tick(comings, word)
        lost = worker != runner if word != "bell" else runner is not None and book["takes", level] > 0
        found.append(runner if lost else None)
    return found


def numbers_of_two(load, two):
    """The numbers that the two have in the cut, by those in the load."""
    return {task: number for number, task in enumerate(sorted(two))}


class Examples(unittest.TestCase):
    def test_examples(self):
        self.assertEqual(
            [two_of(FEED, LATE, LOAD), cut(FEED, LATE, LOAD), kept_ticks(FEED, LATE, LOAD)],
            [(0, 1), (LOAD[0], ((), "bell"), ((), "on")), (0, 1, 2)])
        self.assertEqual([is_parting(FEED, LATE, LONGER), kept_ticks(FEED, LATE, LONGER)], [True, (3, 4, 5)])
        self.assertEqual(two_of(LATE, FEED, LONGER), (2, 1))
        self.assertEqual(cut(FEED, LATE, LONGER), cut(FEED, LATE, LOAD))

    def test_comings_of_left_out_ticks(self):
        # Ahead of the two a third task works for two ticks, in which they come.
        load = (((("come", 0),), "on"), ((("come", 1),), "on"), ((("come", 1),), "end"), ((("come", 0),), "end"),
                ((), "on"), ((("come", 0),), "end"), ((), "on"))
        self.assertTrue(is_parting(FEED, LATE, load))
        self.assertEqual(two_of(FEED, LATE, load), (1, 2))
        self.assertEqual(kept_ticks(FEED, LATE, load), (4, 5, 6))
        self.assertEqual(cut(FEED, LATE, load), (((("come", 1), ("come", 1)), "on"), ((), "bell"), ((), "on")))

    def test_wakings_of_left_out_ticks_in_their_order(self):
        # Both sleep; they wake in ticks in which others work, one ahead of a comer that is left out.
        awake = FEED.with_entry("wake", 1, (1, "back", "new"))
        late = awake.with_entry("lost", 1, (1, "back", "kept"))
        load = (((("come", 1), ("come", 1)), "sleep"), ((), "sleep"), ((("come", 0), ("wake", 1)), "way"),
                ((("come", 0), ("wake", 0)), "end"), ((), "end"), ((), "on"), ((("come", 0),), "end"), ((), "on"))
        self.assertEqual(chart(awake, load), (0, 1, 2, 2, 3, 1, 4, 1))
        self.assertEqual(chart(late, load), (0, 1, 2, 2, 3, 1, 4, 0))
        self.assertEqual(kept_ticks(awake, late, load), (0, 1, 5, 6, 7))
        self.assertEqual(cut(awake, late, load), (
            load[0], load[1], ((("wake", 1), ("wake", 0)), "on"), ((), "bell"), ((), "on")))

    def test_a_tick_in_which_one_of_the_books_alone_takes_one_away(self):
        # By the other book the first one has used up its slice, and is ready when the third one comes.
        other = LATE.with_entry("ticks", 1, 1).with_entry("used", 1, (1, "front"))
        for one, two, pair in ((LATE, other, (1, 0)), (other, LATE, (0, 1))):
            self.assertEqual([function(one, two, LOAD) for function in FUNCTIONS],
                             [pair, (LOAD[0], ((), "bell"), ((), "on")), (0, 1, 2)])
            self.assertTrue(is_parting(one, two, cut(one, two, LOAD)))

    def test_bells_stay(self):
        load = (((), "bell"), ((), "on"), ((("come", 0),), "bell"), ((), "end"), ((), "bell")) + LOAD
        self.assertEqual(kept_ticks(FEED, LATE, load), (0, 2, 4, 5, 6, 7))
        self.assertEqual(cut(FEED, LATE, load), (((), "bell"),) * 3 + (LOAD[0], ((), "bell"), ((), "on")))

    def test_at_the_first_tick(self):
        turned = Book.of(FEED.levels, (1, 0))
        load = (((("come", 0), ("come", 0), ("come", 1)), "way"),)
        self.assertEqual([function(FEED, turned, load) for function in FUNCTIONS],
                         [(0, 2), (((("come", 0), ("come", 1)), "way"),), (0,)])


class AtRandom(unittest.TestCase):
    def test_the_two(self):
        for book, other, load in PARTED:
            self.assertEqual(two_of(book, other, load), (told(book, load)[0][-1], told(other, load)[0][-1]))
            one, two = two_of(book, other, load)
            self.assertNotEqual(one, two)
            self.assertEqual((type(one), type(two)), (int, int))

    def test_which_ticks_stay(self):
        turned = 0
        for book, other, load in PARTED:
            two = two_of(book, other, load)
            charted = told(book, load)[0]
            lost = [set(pair) & set(two) for pair in zip(taken_away(book, load), taken_away(other, load))]
            right = [index for index, (_, word) in enumerate(load)
                     if index == len(load) - 1 or charted[index] in two or word == "bell" or lost[index]]
            self.assertEqual(kept_ticks(book, other, load), tuple(right))
            words = [load[index][1] if charted[index] in two or index == len(load) - 1 else "bell" for index in right]
            self.assertEqual([word for _, word in cut(book, other, load)], words)
            turned += sum(word == "bell" != load[index][1] for index, word in zip(right, words))
        self.assertGreater(turned, 10)

    def test_comings(self):
        for book, other, load in PARTED:
            two, kept = two_of(book, other, load), kept_ticks(book, other, load)
            numbers = numbers_of_two(load, two)
            come, waiting, right = 0, [], []
            for index, (comings, _) in enumerate(load):
                for word, number in comings:
                    if word == "come":
                        waiting += [("come", number)] if come in two else []
                        come += 1
                    elif number in two:
                        waiting.append(("wake", numbers[number]))
                if index in kept:
                    right.append(tuple(waiting))
                    waiting = []
            self.assertEqual([comings for comings, _ in cut(book, other, load)], right)

    def test_the_same_task_works(self):
        for book, other, load in PARTED:
            two, shorter, kept = [function(book, other, load) for function in FUNCTIONS]
            numbers = numbers_of_two(load, two)
            self.assertTrue(is_parting(book, other, shorter))
            self.assertLessEqual(len(shorter), len(load))
            for one in (book, other):
                whole, short = chart(one, load), chart(one, shorter)
                for index, source in enumerate(kept[:-1]):
                    self.assertEqual(short[index], numbers.get(whole[source], "bell"))
                self.assertEqual(short[-1], numbers[whole[-1]])
            self.assertEqual({numbers[two[0]], numbers[two[1]]}, {0, 1})

    def test_a_cut_of_a_cut(self):
        for book, other, load in PARTED:
            shorter = cut(book, other, load)
            self.assertEqual(cut(book, other, shorter), shorter)
            self.assertEqual(kept_ticks(book, other, shorter), tuple(range(len(shorter))))
            self.assertEqual(sorted(two_of(book, other, shorter)), [0, 1])

    def test_the_other_way_round(self):
        for book, other, load in PARTED[::5]:
            self.assertEqual(two_of(other, book, load), two_of(book, other, load)[::-1])
            self.assertEqual(cut(other, book, load), cut(book, other, load))
            self.assertEqual(kept_ticks(other, book, load), kept_ticks(book, other, load))


class Errors(unittest.TestCase):
    def assert_refused(self, error, book, other, load):
        for function in FUNCTIONS:
            with self.assertRaises(error):
                function(book, other, load)

    def test_books(self):
        for value in (*OTHERS, *FEED.levels, FEED.levels):
            self.assert_refused(InvalidBook, value, FEED, [])
            self.assert_refused(InvalidBook, FEED, value, LOAD)
        self.assert_refused(InvalidBook, FEED, WIDE, LOAD)
        self.assert_refused(InvalidBook, FEED, Book.of(FEED.levels, (0,)), None)

    def test_loads(self):
        for value in (*OTHERS, *BOOKS, (), LOAD[:2], LOAD + (((), "on"),), list(LOAD), LOAD[1:], LOAD[0],
                      (((("wake", 0),), "on"),), (((("come", 5),), "on"),), LOAD[:2] + (((("wake", 0),), "on"),),
                      LOAD[:2] + (((), "bell"),), LOAD[:2] + (((("come", FORTY),), "on"),)):
            self.assert_refused(InvalidLoad, FEED, LATE, value)
        self.assert_refused(InvalidLoad, FEED, FEED, LOAD)
        self.assert_refused(InvalidLoad, ONE, ONE.with_entry("lost", 0, (0, "front", "kept")), LOAD)

    def test_loads_that_do_not_part_at_random(self):
        source = random.Random("together")
        for _ in range(60):
            book, other = some_pair(source)
            load = some_load(source, book, source.randint(1, 12), 5)
            if not is_parting(book, other, load):
                self.assert_refused(InvalidLoad, book, other, load)


if __name__ == "__main__":
    unittest.main()
