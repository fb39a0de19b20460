"""[15.1] to [15.3]: ranks that are ahead, and leads of races."""

import random
import unittest
from unittest.mock import patch

from tests.reference import Scheduler, some_book, some_full_book, some_load, stands_by_form
from tests.samples import BOOKS, FEED, FORTY, FORTY_ONE, LATE, LOAD, ONE, OTHERS, WIDE
from twoandabell.book.books import Book, Level
from twoandabell.errors import InvalidBook, InvalidNumber, TooMany
from twoandabell.pair.stands import FIRST, exchanged, moves_at, stand_after, worker_at
from twoandabell.run.loads import chart
from twoandabell.waits.ranks import ahead_paper, is_ahead, is_ahead_paper, is_lead_paper, lead, lead_paper

NO_BOOKS = (*OTHERS, *FEED.levels, FEED.levels, LOAD)
FUNCTIONS = (is_ahead, ahead_paper, lambda *given: is_ahead_paper(*given, None), lead, lead_paper,
             lambda *given: is_lead_paper(*given, None))
# Nothing leads from one level to another one, so better ranks are ahead of worse ones.
PLAIN = Book(Level.plain(0, 1), Level.plain(1, 2), Level.plain(2), ranks=(0, 1, 2))
# Here the worse one is not taken away, once it runs.
KEPT = Book(Level.plain(0, 1), Level.plain(1, 3).replaced("takes", 0).replaced("used", (1, "front")), ranks=(0, 1))
TURNS = Book(Level.plain(0, 3), ranks=(0, 0))
# The worse one is taken away by a bell, but not by the better one; then it works no more.
BELLS = Book(Level.plain(0, 1), Level.plain(1, 1), Level.plain(2, 3).replaced("takes", 1), ranks=(1, 2))
BARE = Book(Level.plain(0), ranks=(0, 0))
BARE_BEST = Book(Level.plain(0), Level.plain(1, 2), ranks=(0, 1))
SMALL = [FEED, LATE, ONE, WIDE, PLAIN, KEPT, TURNS, BELLS, BARE, BARE_BEST, *[some_book(random.Random(seed)) for seed in range(12)]]
RANKED = [(book, rank, other) for book in SMALL for rank in range(len(book.ranks)) for other in range(len(book.ranks))]


def steps(book, rank, other, stand):
    """The moves at a stand with only these ranks, and the stands behind them."""
    own = {0: rank, 1: other}
    return [(move, stand_after(book, stand, move)) for move in moves_at(book, stand)
            if move[0] != "come" or own[move[1]] == move[2]]


def all_reached(book, rank, other):
    """A dict from each stand to the least number of ticks and bells, by the letter of the document."""
    found, waiting = {FIRST: 0}, [FIRST]
    while waiting:
        stand = waiting.pop(0)
        for move, behind in steps(book, rank, other, stand):
            many = found[stand] + (move[0] in ("tick", "bell"))
            if found.get(behind, 10 ** 9) > many:
                found[behind] = many
                waiting.append(behind)
    return found


def is_there(part):
    return part[0] in ("ready", "runs")


def passes(book, stand):
    return worker_at(book, stand) == 1 and is_there(stand[0])


def right_lead(book, reached):
    """The greatest lead by going all races on, `None` without end."""
    stands = [stand for stand in reached if is_there(stand[0]) and is_there(stand[1])]
    leads = {stand: 0 for stand in stands}
    for _ in range(2 * len(stands) + 2):
        longer = {}
        for stand in stands:
            gain = 1 if worker_at(book, stand) == 1 else -1
            longer[stand] = max(0, gain + leads[stand_after(book, stand, ("tick", "on"))],
                                leads[stand_after(book, stand, ("bell",))])
        if longer == leads:
            return max(leads.values())
        leads = longer
    return None


def raced(book, rank, other, load, tick):
    """The leads of the race of a load from a tick on, for both ways to tell the tasks apart; by a scheduler."""
    scheduler, works = Scheduler(book), []
    for index, (comings, word) in enumerate(load):
        for coming in comings:
            assert scheduler.tick_ahead(coming)
        if index == tick:
            assert len(scheduler.tasks) == 2 and all(is_there(task.picture()) for task in scheduler.tasks)
        worker = scheduler.tick((), word)
        if index >= tick:
            assert worker == "bell" or worker in (0, 1) and word == "on"
            works.append(worker)
    ranks = [number for comings, _ in load for word, number in comings if word == "come"]
    assert sorted(ranks) == sorted([rank, other]) and len(load) > tick
    gains = [works.count(task) - works.count(1 - task) for task in (0, 1)]
    return gains if rank == other else [gains[ranks.index(other)]]


class Ahead(unittest.TestCase):
    def test_examples(self):
        self.assertEqual(
            [is_ahead(ONE, 0, 1), ahead_paper(FEED, 0, 1)[0], lead(ONE, 0, 1), lead_paper(ONE, 0, 0)[0]],
            [False, "works", 1, "most"])
        self.assertIs(is_ahead_paper(ONE, 0, 1, ("works", (((("come", 1), ("come", 0)), "on"),))), True)

    def test_by_hand(self):
        for rank in range(3):
            for other in range(3):
                self.assertIs(is_ahead(PLAIN, rank, other), rank < other)
        # A rank is never ahead of itself, for of two tasks that come one works ahead of the other one.
        for book, rank, other in RANKED:
            if book.ranks[rank] == book.ranks[other]:
                self.assertIs(is_ahead(book, rank, other), False)
        self.assertIs(is_ahead(KEPT, 0, 1), False)
        self.assertEqual(ahead_paper(KEPT, 0, 1), ("works", (((("come", 1),), "on"), ((("come", 0),), "on"))))

    def test_each_two_ranks(self):
        words = set()
        for book, rank, other in RANKED:
            reached = all_reached(book, rank, other)
            worse = [many for stand, many in reached.items() if passes(book, stand)]
            paper = ahead_paper(book, rank, other)
            self.assertIs(is_ahead(book, rank, other), not worse)
            self.assertIs(is_ahead_paper(book, rank, other, paper), True)
            words.add((paper[0], len(book)))
            if worse:
                self.assertEqual((paper[0], len(paper[1])), ("works", min(worse) + 1))
                self.assert_works(book, rank, other, paper[1])
                self.assertIs(is_ahead_paper(book, rank, other, ("ahead", tuple(sorted(reached)))), False)
            else:
                self.assertEqual(paper, ("ahead", tuple(sorted(reached))))
        self.assertTrue({("works", 1), ("works", 2), ("works", 3), ("ahead", 3)} <= words)

    def assert_works(self, book, rank, other, load):
        scheduler = Scheduler(book)
        for comings, word in load:
            worker = scheduler.tick(comings, word)
        ranks = [number for comings, _ in load for word, number in comings if word == "come"]
        self.assertEqual(sorted(ranks), sorted((rank, other)))
        self.assertEqual(ranks[worker], other)
        self.assertEqual(scheduler.tasks[1 - worker].mode, "ready")

    def test_a_task_that_is_taken_away_in_the_same_tick(self):
        # Task 0 of rank 1 runs; task 1 of rank 0 comes and takes it away.
        load = (((("come", 1),), "on"), ((("come", 0),), "on"))
        self.assertEqual(chart(PLAIN, load), (0, 1))
        self.assertIs(is_ahead_paper(PLAIN, 1, 0, ("works", load)), True)
        self.assertIs(is_ahead_paper(PLAIN, 0, 1, ("works", load)), False)
        # In the last tick of this one it only stands ready; and here it is asleep, or has ended.
        self.assertIs(is_ahead_paper(PLAIN, 1, 0, ("works", (((("come", 1), ("come", 0)), "end"),))), True)
        for word in ("sleep", "end"):
            load = (((("come", 1),), word), ((("come", 0),), "on"))
            self.assertIs(is_ahead_paper(PLAIN, 1, 0, ("works", load)), False)

    def test_longer_loads(self):
        for load in ((((), "on"), ((), "bell"), ((("come", 1), ("come", 0)), "on")),
                     (((("come", 0),), "sleep"), ((("come", 1),), "bell"), ((("wake", 0),), "way")),
                     (((("come", 0), ("come", 1)), "on"), ((), "on"))):
            self.assertIs(is_ahead_paper(ONE, 0, 1, ("works", load)), True, load)
            self.assertIs(is_ahead_paper(ONE, 0, 1, ("works", (*load, ((), "bell")))), False)
        for load in ((((("come", 0), ("come", 1)), "on"),), (((("come", 1),), "way"), ((("come", 0),), "bell")),
                     (((("come", 1),), "on"),), (((("come", 1), ("come", 0), ("come", 0)), "on"),), (), (((), "on"),),
                     (((("come", 1), ("come", 1)), "on"),), (((("come", 1), ("come", 0)), "bell"),),
                     (((("come", 1), ("come", 0)), "on"), ((("wake", 1),), "on")),
                     (((("come", 1), ("come", 2)), "on"),)):
            self.assertIs(is_ahead_paper(ONE, 0, 1, ("works", load)), False, load)
        for word in ("Works", "ahead", "most", None, 0, ["works"]):
            self.assertIs(is_ahead_paper(ONE, 0, 1, (word, (((("come", 1), ("come", 0)), "on"),))), False)
        # Of two tasks of one rank either can be taken for the second one.
        two = (("come", 1), ("come", 1))
        self.assertIs(is_ahead_paper(ONE, 1, 1, ("works", ((two, "on"),))), True)
        for load in (((two, "bell"),), ((two, "end"), ((), "on"), ((), "on")), (((*two, ("come", 1)), "on"),), ((two[:1], "on"),),
                     (((("come", 0), ("come", 1)), "on"),), (((("come", 0), ("come", 0)), "on"),)):
            self.assertIs(is_ahead_paper(ONE, 1, 1, ("works", load)), False, load)

    def test_tables(self):
        for rank, other in ((0, 1), (0, 2), (1, 2)):
            table = ahead_paper(PLAIN, rank, other)[1]
            for index in range(len(table)):
                self.assert_refused(PLAIN, rank, other, table[:index] + table[index + 1:])
                self.assert_refused(PLAIN, rank, other, table[:index + 1] + table[index:])
                for value in (None, table[index][:2], list(table[index]), exchanged(PLAIN, table[index])):
                    if value != table[index]:
                        self.assert_refused(PLAIN, rank, other, (*table[:index], value, *table[index + 1:]))
            self.assert_refused(PLAIN, rank, other, table[::-1], list(table), (), (FIRST,), None, LOAD)
            self.assertIs(is_ahead_paper(PLAIN, rank, other, ("works", table)), False)

    def test_further_stands(self):
        # Stands to which no moves lead from the first one, closed or not.
        table = ahead_paper(PLAIN, 0, 1)[1]
        for stand in stands_by_form(PLAIN)[::3]:
            found, waiting = dict.fromkeys(table), [stand]
            while waiting:
                at = waiting.pop()
                if at not in found:
                    found[at] = None
                    waiting += [behind for _, behind in steps(PLAIN, 0, 1, at)]
            right = not any(passes(PLAIN, at) for at in found)
            self.assertIs(is_ahead_paper(PLAIN, 0, 1, ("ahead", tuple(sorted(found)))), right)
            alone = tuple(sorted({*table, stand}))
            self.assertIs(is_ahead_paper(PLAIN, 0, 1, ("ahead", alone)), right and len(alone) == len(found))

    def test_booleans_are_no_numbers(self):
        table = ahead_paper(PLAIN, 0, 1)[1]
        for index, stand in enumerate(table):
            for task in (0, 1):
                for at, number in enumerate(stand[task]):
                    if number in (0, 1):
                        part = (*stand[task][:at], bool(number), *stand[task][at + 1:])
                        turned = (part, *stand[1:]) if task == 0 else (stand[0], part, stand[2])
                        self.assert_refused(PLAIN, 0, 1, (*table[:index], turned, *table[index + 1:]))

    def assert_refused(self, book, rank, other, *tables):
        for table in tables:
            self.assertIs(is_ahead_paper(book, rank, other, ("ahead", table)), False, table)

    def test_values_of_other_kinds(self):
        table = ahead_paper(PLAIN, 0, 1)[1]
        for value in (*OTHERS, *BOOKS, table, LOAD, ("ahead",), ("ahead", table, None), ["ahead", table],
                      (table, "ahead"), ("Ahead", table), (None, table), (["ahead"], table), ("works", LOAD)):
            self.assertIs(is_ahead_paper(PLAIN, 0, 1, value), False)


class Leads(unittest.TestCase):
    def test_by_hand(self):
        self.assertEqual([lead(PLAIN, rank, other) for rank, other in ((0, 1), (0, 2), (1, 2))], [0, 0, 0])
        self.assertEqual([lead(PLAIN, rank, other) for rank, other in ((1, 0), (2, 0), (2, 1))], [None] * 3)
        # By turns, each with three ticks.
        self.assertEqual([lead(TURNS, 0, 1), lead(TURNS, 1, 1)], [3, 3])
        # Once it runs, the worse one goes on for the rest of its slice; without a slice for ever.
        self.assertEqual(lead(KEPT, 0, 1), 2)
        self.assertIsNone(lead(KEPT.with_entry("ticks", 1, None), 0, 1))
        self.assertEqual([lead(BELLS, 0, 1), lead(BARE, 0, 1)], [2, None])

    def test_each_two_ranks(self):
        leads = set()
        for book, rank, other in RANKED:
            reached = all_reached(book, rank, other)
            right, paper = right_lead(book, reached), lead_paper(book, rank, other)
            self.assertEqual(lead(book, rank, other), right)
            self.assertIs(is_lead_paper(book, rank, other, paper), True)
            leads.add(right)
            if right is None:
                self.assert_endless(book, rank, other, paper)
            else:
                self.assert_most(book, rank, other, paper, reached, right)
        self.assertTrue({None, 0, 1, 2, 3} <= leads)

    def assert_most(self, book, rank, other, paper, reached, right):
        word, load, tick, table = paper
        self.assertEqual((word, max(raced(book, rank, other, load, tick))), ("most", right))
        numbers = dict(table)
        self.assertEqual([stand for stand, _ in table], sorted(
            stand for stand in reached if is_there(stand[0]) and is_there(stand[1])))
        self.assertLessEqual(max(numbers.values()), right)
        for stand, number in table:
            worker = worker_at(book, stand)
            behind = numbers[stand_after(book, stand, ("tick", "on"))]
            self.assertTrue(behind < number if worker == 1 else behind <= number + 1)
            self.assertLessEqual(numbers[stand_after(book, stand, ("bell",))], number)

    def assert_endless(self, book, rank, other, paper):
        word, load, tick, ring = paper
        self.assertEqual(word, "endless")
        self.assertTrue(ring and set(ring) <= {("tick", "on"), ("bell",)})
        once = raced(book, rank, other, load, tick)
        # As many rings more as may be, each one leads further.
        more = (*load, *[((), move[-1]) for move in ring])
        self.assertNotEqual(raced(book, rank, other, more, tick), once)
        self.assertGreater(max(raced(book, rank, other, more, len(load))), 0)
        self.assertEqual(raced(book, rank, other, (*more, *more[len(load):]), len(more)),
                         raced(book, rank, other, more, len(load)))

    def test_loads_of_many_tasks_have_no_greater_leads(self):
        source = random.Random("races")
        for _ in range(60):
            book = some_book(source)
            load = some_load(source, book, 20, 4)
            greatest = {}
            for rank, other, gained in self.races(book, load):
                if (rank, other) not in greatest:
                    greatest[rank, other] = lead(book, rank, other)
                self.assertTrue(greatest[rank, other] is None or gained <= greatest[rank, other])

    def races(self, book, load):
        """The leads of all races of two tasks in a load, with their ranks."""
        scheduler, rows, found = Scheduler(book), [], []
        for comings, word in load:
            for coming in comings:
                scheduler.tick_ahead(coming)
            there = [number for number, task in enumerate(scheduler.tasks) if is_there(task.picture())]
            rows.append((there, scheduler.tick((), word), word))
        ranks = [number for comings, _ in load for word, number in comings if word == "come"]
        for first in range(len(load)):
            for one in rows[first][0]:
                for two in rows[first][0]:
                    gained = 0
                    for _, worker, word in rows[first:] if one != two else ():
                        if worker in (one, two) and word != "bell":
                            if word != "on":
                                break
                            gained += 1 if worker == two else -1
                        found.append((ranks[one], ranks[two], gained))
        return found


class LeadPapers(unittest.TestCase):
    def test_correct_ones_of_others(self):
        word, load, tick, table = lead_paper(ONE, 0, 1)
        # Longer loads, other races, greater numbers where the lead allows it, and further stands.
        for other, at in (((((), "bell"), *load), tick + 1), ((((), "on"), ((("come", 1), ("come", 0)), "on")), 1),
                          ((((("come", 1), ("come", 0)), "bell"), ((), "on"), ((), "bell")), 0)):
            self.assertIs(is_lead_paper(ONE, 0, 1, (word, other, at, table)), True, other)
        fresh = ("ready", 0, 1)
        self.assertEqual(table, (((fresh, fresh, 0), 0), ((fresh, fresh, 1), 1)))
        wide = FEED.with_entry("come", 1, 0).with_entry("used", 0, (0, "back"))
        word, load, tick, table = lead_paper(wide, 0, 1)
        self.assertEqual(lead(wide, 0, 1), 1)
        found = {stand: number for stand, number in table}
        other = (("ready", 1, 2), ("ready", 1, 2), 0)
        self.assertNotIn(other, found)
        more = {}
        waiting = [other]
        while waiting:
            stand = waiting.pop()
            if stand not in more and stand not in found:
                more[stand] = 0
                waiting += [stand_after(wide, stand, move) for move in (("tick", "on"), ("bell",))]
        numbers = {**found, **more}
        for _ in range(100):
            for stand in more:
                gain = 1 if worker_at(wide, stand) == 1 else -1
                numbers[stand] = max(numbers[stand], gain + numbers[stand_after(wide, stand, ("tick", "on"))],
                                     numbers[stand_after(wide, stand, ("bell",))])
        if max(numbers.values()) < 50:
            self.assertIs(is_lead_paper(wide, 0, 1, (word, load, tick, tuple(sorted(numbers.items())))), True)
        self.assertIs(is_lead_paper(wide, 0, 1, (word, load, tick, tuple(sorted({**numbers, other: -1}.items())))), False)

    def test_further_stands_may_have_greater_numbers(self):
        # Both at the worse level, which is not reached, take turns with three ticks each; less is left of one at first.
        book = Book(ONE.levels[0], Level.plain(1, 3).replaced("lost", (1, "front", "kept")), ranks=(0, 0))
        word, load, tick, table = lead_paper(book, 0, 1)
        ends = {}
        for stand in stands_by_form(book):
            if all(is_there(part) and part[1] == 1 for part in stand[:2]):
                ends[stand] = 0
        for _ in range(200):
            for stand in ends:
                gain = 1 if worker_at(book, stand) == 1 else -1
                ends[stand] = max(ends[stand], gain + ends[stand_after(book, stand, ("tick", "on"))],
                                  ends[stand_after(book, stand, ("bell",))])
        self.assertEqual(max(ends.values()), 5)
        self.assertIs(is_lead_paper(book, 0, 1, (word, load, tick, tuple(sorted([*table, *ends.items()])))), True)
        more = [(stand, number + 9) for stand, number in ends.items()]
        self.assertIs(is_lead_paper(book, 0, 1, (word, load, tick, tuple(sorted([*table, *more])))), True)
        less = [(stand, max(0, number - 1)) for stand, number in ends.items()]
        self.assertIs(is_lead_paper(book, 0, 1, (word, load, tick, tuple(sorted([*table, *less])))), False)

    def test_with_one_part_changed(self):
        for book, rank, other in RANKED:
            paper = lead_paper(book, rank, other)
            word, load, tick, rest = paper
            for value in (
                    list(paper), paper[:3], (*paper, None), ("Most", *paper[1:]), (None, *paper[1:]), (load, tick, rest),
                    ("endless" if word == "most" else "most", *paper[1:]), (word, tick, load, rest),
                    (word, load, len(load), rest), (word, load, -1, rest), (word, load, None, rest),
                    (word, load, bool(tick), rest) if tick in (0, 1) else None, (word, list(load), tick, rest),
                    (word, load[:tick], tick, rest), (word, load, tick, list(rest)), (word, load, tick, None),
                    (word, (), 0, rest), (word, None, tick, rest), (word, load, tick, (*rest, None)),
                    (word, (*load, ((), "sleep")), tick, rest), (word, (*load, ((), "way")), tick, rest),
                    (word, (*load, ((("come", 0),), "on")), tick, rest), (word, load, tick, (None,))):
                self.assertIs(is_lead_paper(book, rank, other, value), False, value)
            if word == "most":
                self.assert_tables_refused(book, rank, other, paper)
            else:
                self.assert_rings_refused(book, rank, other, paper)

    def assert_tables_refused(self, book, rank, other, paper):
        word, load, tick, table = paper
        most = max(number for _, number in table)
        for index, (stand, number) in list(enumerate(table))[::5]:
            pairs = [(stand, number - 1), (stand, most + 1), (stand, None), (stand,), [stand, number], (number, stand),
                     (stand, number, 0), (list(stand), number), (stand[:2], number), (FIRST, 0), (stand, FORTY_ONE),
                     (stand, bool(number))]
            tables = [(*table[:index], pair, *table[index + 1:]) for pair in pairs]
            tables += [table[:index] + table[index + 1:], table[:index + 1] + table[index:], table[::-1], (*table, (FIRST, 0))]
            for changed in tables:
                if changed != table or repr(changed) != repr(table):
                    self.assertIs(is_lead_paper(book, rank, other, (word, load, tick, changed)), False)
        # A load with a lesser lead: a bell more, in which nobody gains, is none.
        for shorter in range(tick + 1, len(load)):
            leads = raced(book, rank, other, load[:shorter], tick)
            self.assertIs(is_lead_paper(book, rank, other, (word, load[:shorter], tick, table)), max(leads) == most)

    def assert_rings_refused(self, book, rank, other, paper):
        word, load, tick, ring = paper
        for changed in ((), ring[:-1], (*ring, ("tick", "end")), (*ring, ("bell", 0)), (*ring, "bell"), (*ring, None),
                        (*ring, ("tick", "on", 0)), (*ring, ["bell"])):
            self.assertIs(is_lead_paper(book, rank, other, (word, load, tick, changed)), False, changed)
        self.assertIs(is_lead_paper(book, rank, other, (word, load, tick, ring * 2)), True)
        if rank != other:
            self.assertIs(is_lead_paper(book, other, rank, paper), False)

    def test_of_two_tasks_of_one_rank_either_is_the_second_one(self):
        book = Book(Level.plain(0).replaced("used", (0, "front")), ranks=(0,))
        for load in ((((("come", 0), ("come", 0)), "on"),), (((("come", 0),), "on"), ((("come", 0),), "on"))):
            for ring in ((("tick", "on"),), (("tick", "on"), ("bell",))):
                self.assertIs(is_lead_paper(book, 0, 0, ("endless", load, len(load) - 1, ring)), True)
        word, load, tick, table = lead_paper(TURNS, 0, 0)
        for first in ((("come", 0), ("come", 0)),):
            load = ((first, "on"), ((), "on"), ((), "on"))
            self.assertIs(is_lead_paper(TURNS, 0, 0, (word, load, 0, table)), True)
            self.assertIs(is_lead_paper(TURNS, 0, 0, (word, (*load, ((), "on")), 0, table)), False)

    def test_a_race_begins_where_both_are_there(self):
        word, _, _, table = lead_paper(ONE, 0, 1)
        # In this one the first rank has the lead.
        load = (((("come", 0), ("come", 1)), "on"),)
        self.assertIs(is_lead_paper(ONE, 0, 1, (word, load, 0, table)), False)
        self.assertIs(is_lead_paper(ONE, 1, 0, (word, load, 0, table)), True)
        # The lead is 1 if the race begins at tick 2; in the tick ahead of it one has not come, is asleep, or ends.
        for load in ((((("come", 1),), "on"), ((("come", 0),), "bell"), ((), "on")),
                     (((("come", 0), ("come", 1)), "sleep"), ((("wake", 0),), "bell"), ((), "on"))):
            self.assertIs(is_lead_paper(ONE, 0, 1, (word, load, 1, table)), True)
            self.assertIs(is_lead_paper(ONE, 0, 1, (word, load, 2, table)), True)
            self.assertIs(is_lead_paper(ONE, 0, 1, (word, load, 0, table)), False)
        load = (((("come", 0), ("come", 1)), "end"), ((), "on"))
        self.assertIs(is_lead_paper(ONE, 0, 1, (word, load, 1, table)), False)

    def test_values_of_other_kinds(self):
        for value in (*OTHERS, *BOOKS, LOAD, (LOAD,) * 4, (None,) * 4, ({}, [], (), 0)):
            for rank, other in ((0, 0), (0, 1), (1, 0)):
                self.assertIs(is_lead_paper(FEED, rank, other, value), False)


class Errors(unittest.TestCase):
    def test_in_their_order(self):
        for function in FUNCTIONS:
            for book in NO_BOOKS:
                with self.assertRaises(InvalidBook):
                    function(book, None, None)
            for value in (*OTHERS, 2, FEED):
                if not (type(value) is int and value in (0, 1)):
                    for arguments in ((value, 0), (value, -5), (0, value), (1, value)):
                        with self.assertRaises(InvalidNumber) as caught:
                            function(FEED, *arguments)
                        self.assertIs(caught.exception.number, value)

    def test_loads_that_would_be_too_long(self):
        # No books are known that need so many ticks, so the limit is made a small one.
        with patch("twoandabell.pair.courses.MAX_LOAD", 1):
            for function in (ahead_paper, lead_paper):
                with self.assertRaises(TooMany) as caught:
                    function(KEPT, 0, 1)
                self.assertEqual(caught.exception.limit, 1)
            self.assertEqual((is_ahead(KEPT, 0, 1), lead(KEPT, 0, 1)), (False, 2))
            self.assertEqual(ahead_paper(ONE, 0, 1)[0], "works")


class Quick(unittest.TestCase):
    def test_many_full_books(self):
        source = random.Random("full ranks")
        for _ in range(12):
            book = some_full_book(source)
            for rank in range(3):
                for other in range(3):
                    self.assertTrue(is_ahead_paper(book, rank, other, ahead_paper(book, rank, other)))
                    paper = lead_paper(book, rank, other)
                    self.assertTrue(is_lead_paper(book, rank, other, paper))
                    self.assertIs(lead(book, rank, other) is None, paper[0] == "endless")


if __name__ == "__main__":
    unittest.main()
