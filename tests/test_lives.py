"""[13.1] to [13.4]: lives of one other task beside a task that waits."""

import random
import unittest

from tests.reference import Scheduler, parts_by_form, scheduler_at, some_book, some_books, some_load
from tests.samples import BOOKS, FEED, FORTY, LATE, LOAD, ONE, OTHERS, WIDE
from twoandabell.book.states import postures
from twoandabell.errors import InvalidBook, InvalidNumber, InvalidOperation, InvalidStand
from twoandabell.text.books import read_book
from twoandabell.waits.lives import doors, first_stands, is_life_paper, life_paper, most_work, steps_from

NO_BOOKS = (*OTHERS, *FEED.levels, FEED.levels, LOAD)
MANY_BOOKS = (*BOOKS, *some_books(40, "lives"))
OUT, BEHIND = ("out",), ("behind",)
WORK = (("end",), ("on",), ("sleep",), ("way",))
# Who comes is taken away by nobody; a task that wakes enters ahead, at the front.
FRONT = read_book("""ranks 1
level ticks 2, used 1 back, wake 0 front kept, way 1 front new, lost 0 back new, takes 0
level ticks 3, used 1 back, wake 1 front new, way 0 back kept, lost 1 front kept, takes 0""")
# Each task works in the worse level for at most three ticks ahead of one that waits there.
BOUND = read_book("""ranks 1 1
level ticks 1, used 1 back, wake 1 back new, way 1 back new, lost 0 back new, takes 0
level ticks 3, used 1 back, wake 1 back new, way 1 back new, lost 1 front kept, takes 1""")


def all_doors():
    """All books of this file with their doors, and both values of `runs`."""
    return [(book, *door, runs) for book in (*MANY_BOOKS, FRONT, BOUND) for door in doors(book)
            for runs in (False, True)]


def side_stands(book, level):
    """The ascending list of all side stands by the form alone."""
    parts = [part for part in parts_by_form(book) if len(part) == 3 and (part[0] != "ready" or part[1] <= level)]
    return sorted([OUT, BEHIND, *parts])


def steps_by_a_scheduler(book, level, stand):
    """The steps from a side stand, by a scheduler with a task 0 that waits at a level, and the other one."""
    ticks = book["ticks", level]
    if stand == BEHIND:
        return {}
    if stand == OUT:
        moves = [("come", rank) for rank in range(len(book.ranks))]
    elif stand[0] == "asleep":
        moves = [("wake",)]
    else:
        bell = [("bell",)] if stand[0] == "runs" and book["takes", stand[1]] >= 1 else []
        moves = [*bell, *WORK]
    found = {}
    for move in moves:
        part = ("away",) if stand == OUT else stand
        ahead = 1 if stand[0] == "ready" and stand[1] == level else None
        scheduler = scheduler_at(book, (("ready", level, ticks), part, ahead))
        do_step(scheduler, book, move)
        found[move] = side_of(scheduler, level)
    return found


def do_step(scheduler, book, move):
    if move[0] == "come":
        scheduler.tasks[1].level = book["come", move[1]]
        scheduler.put(1, book["come", move[1]], "back", "new")
    elif move[0] in ("wake", "bell"):
        scheduler.enter_by(1, {"wake": "wake", "bell": "lost"}[move[0]])
    else:
        for level, row in scheduler.rows.items():
            scheduler.rows[level] = [task for task in row if task != 1]
        scheduler.tasks[1].mode = "runs"
        scheduler.work(1, move[0])


def side_of(scheduler, level):
    other = scheduler.tasks[1]
    if other.mode == "ended":
        return BEHIND
    line = [task for index in sorted(scheduler.rows) for task in scheduler.rows[index]]
    if other.mode == "ready" and line.index(0) < line.index(1):
        return BEHIND
    return other.picture()


def right_most(book, level, firsts):
    """The most work from some side stands on, `None` without end; by going all ways."""
    told = {}

    def most(stand, way):
        if stand in way:
            raise OverflowError
        if stand not in told:
            told[stand] = max([0, *[(step in WORK) + most(behind, (*way, stand))
                                    for step, behind in steps_from(book, level, stand).items()]])
        return told[stand]

    try:
        return max([0, *[most(stand, ()) for stand in firsts]])
    except OverflowError:
        return None


def last_of(book, level, life):
    """The last side stand of a life, whose steps are all possible."""
    stand, steps = life
    for step in steps:
        stand = steps_from(book, level, stand)[step]
    return stand


class Doors(unittest.TestCase):
    def test_examples(self):
        self.assertEqual(
            [doors(FEED), first_stands(FEED, 0, "back"), first_stands(FEED, 0, "back", runs=True)],
            [((0, "back"), (1, "back")),
             (("asleep", 0, 0), ("asleep", 1, 0), ("asleep", 1, 1), ("out",), ("ready", 0, 1)), ()])

    def test_by_hand(self):
        self.assertEqual([doors(book) for book in (LATE, ONE, FRONT, BOUND)], [
            ((0, "back"), (1, "back")), ((0, "back"),), ((0, "front"), (1, "back"), (1, "front")), ((1, "back"),)])
        # Nobody sleeps at level 2 of a book in which it is not reached, so it has no door by `wake`.
        wide = read_book("""ranks 0
level ticks 1, used 0 back, wake 0 front new, way 0 back new, lost 0 back new, takes 0
level ticks 1, used 1 back, wake 1 front new, way 1 back new, lost 1 back new, takes 0""")
        self.assertEqual(doors(wide), ((0, "back"), (0, "front")))

    def test_many(self):
        for book in MANY_BOOKS:
            right = {(level, "back") for level in book.ranks}
            right |= {book["wake", posture[1]][:2] for posture in postures(book) if posture[0] == "asleep"}
            self.assertEqual(doors(book), tuple(sorted(right)))

    def test_first_stands_by_hand(self):
        self.assertEqual(first_stands(BOUND, 1, "back"), (
            ("asleep", 1, 0), ("asleep", 1, 1), ("asleep", 1, 2), ("out",), ("ready", 1, 1), ("ready", 1, 2),
            ("ready", 1, 3)))
        self.assertEqual(first_stands(BOUND, 1, "back", runs=True), (("runs", 1, 1), ("runs", 1, 2)))
        # At the front only those of a better level are ahead.
        self.assertEqual([stand for stand in first_stands(FRONT, 1, "front") if stand[0] == "ready"],
                         [("ready", 0, 1), ("ready", 0, 2)])
        self.assertEqual([stand for stand in first_stands(FRONT, 0, "front") if stand[0] == "ready"], [])
        self.assertEqual(first_stands(FRONT, 0, "front", runs=True),
                         (("runs", 0, 1), ("runs", 1, 1), ("runs", 1, 2)))

    def test_first_stands_of_many(self):
        for book, level, place, runs in all_doors():
            right = set() if runs else {OUT}
            for mode, at, left in postures(book):
                ahead = mode == "asleep" or mode == "ready" and (at < level or at == level and place == "back")
                if (mode == "runs" and book["takes", at] <= level) if runs else ahead:
                    right.add((mode, at, left))
            self.assertEqual(first_stands(book, level, place, runs=runs), tuple(sorted(right)))


class Steps(unittest.TestCase):
    def test_examples(self):
        self.assertEqual(
            [steps_from(FEED, 0, ("ready", 0, 1))[("sleep",)], most_work(FEED, 0, "back"), most_work(FEED, 1, "back"),
             most_work(ONE, 0, "back")],
            [("asleep", 0, 0), 1, None, 1])

    def test_by_hand(self):
        # In WIDE the slices are 2, 3 and none.
        for level, stand, right in (
                (0, OUT, {("come", 0): BEHIND, ("come", 1): BEHIND, ("come", 2): BEHIND}),
                (1, OUT, {("come", 0): ("ready", 0, 2), ("come", 1): BEHIND, ("come", 2): BEHIND}),
                (2, OUT, {("come", 0): ("ready", 0, 2), ("come", 1): BEHIND, ("come", 2): ("ready", 1, 3)}),
                (0, ("asleep", 0, 1), {("wake",): ("ready", 0, 1)}), (0, ("asleep", 1, 2), {("wake",): BEHIND}),
                (0, BEHIND, {}), (1, ("asleep", 2, None), {("wake",): ("ready", 1, 3)}),
                (1, ("runs", 1, 1), {("bell",): ("ready", 1, 3), ("end",): BEHIND, ("on",): BEHIND,
                                     ("sleep",): ("asleep", 1, 0), ("way",): ("ready", 0, 2)}),
                (0, ("runs", 2, None), {("bell",): BEHIND, ("end",): BEHIND, ("on",): ("runs", 2, None),
                                        ("sleep",): ("asleep", 2, None), ("way",): BEHIND}),
                (2, ("ready", 0, 2), {("end",): BEHIND, ("on",): ("runs", 0, 1), ("sleep",): ("asleep", 0, 1),
                                      ("way",): ("ready", 2, None)})):
            self.assertEqual(steps_from(WIDE, level, stand), right, (level, stand))

    def test_each_side_stand_by_its_form(self):
        for book in MANY_BOOKS[:25]:
            for level in range(len(book)):
                for stand in side_stands(book, level):
                    found = steps_from(book, level, stand)
                    self.assertEqual(found, steps_by_a_scheduler(book, level, stand), (level, stand))
                    self.assertEqual(list(found), sorted(found))
                    self.assertTrue(all(behind in side_stands(book, level) for behind in found.values()))

    def test_forms(self):
        for book in (FEED, ONE, WIDE):
            for level in range(len(book)):
                right = {repr(stand) for stand in side_stands(book, level)}
                for part in (*parts_by_form(book), OUT, BEHIND):
                    for value in (part, list(part), (*part, 0), part[:-1], (part,), *[
                            (*part[:at], other, *part[at + 1:]) for at in range(len(part))
                            for other in (True, False, None, 0, 3, -1, FORTY, "out", "runs", [], ())]):
                        if repr(value) in right:
                            steps_from(book, level, value)
                        else:
                            with self.assertRaises(InvalidStand):
                                steps_from(book, level, value)
                for value in (*OTHERS, FEED, "out", ("away",), ("ended",)):
                    with self.assertRaises(InvalidStand):
                        steps_from(book, level, value)


class MostWork(unittest.TestCase):
    def test_by_hand(self):
        self.assertEqual([most_work(BOUND, 1, "back"), most_work(BOUND, 1, "back", runs=True)], [3, 2])
        self.assertEqual(most_work(FEED, 0, "back", runs=True), 0)
        self.assertIsNone(most_work(FRONT, 0, "front", runs=True))
        # A task that runs without a slice is not taken away from the level of the door.
        book = read_book("ranks 0\nlevel ticks none, used 0 back, wake 0 back new, way 0 back new, lost 0 back new, takes 0")
        self.assertIsNone(most_work(book, 0, "back", runs=True))
        self.assertIsNone(most_work(book, 0, "back"))

    def test_many(self):
        found = []
        for book, level, place, runs in all_doors():
            right = right_most(book, level, first_stands(book, level, place, runs=runs))
            self.assertEqual(most_work(book, level, place, runs=runs), right)
            found.append(right)
        self.assertGreater(min(found.count(most) for most in (None, 0, 1, 2, 3)), 5)

    def test_no_task_of_a_load_works_more(self):
        source = random.Random("waits")
        seen = 0
        for _ in range(120):
            book = some_book(source)
            load = some_load(source, book, 40, 6)
            for level, place, ran, work in self.waits(book, load):
                most = most_work(book, level, place, runs=ran)
                self.assertTrue(most is None or work <= most)
                seen += work > 0
        self.assertGreater(seen, 300)

    def waits(self, book, load):
        """The door, whether it ran, and the work of each other task during each wait of a load."""
        scheduler, open_ones, found = Scheduler(book), {}, []
        for comings, word in load:
            for coming in comings:
                task = len(scheduler.tasks) if coming[0] == "come" else coming[1]
                level = None if coming[0] == "come" else scheduler.tasks[task].level
                door = (book["come", coming[1]], "back") if level is None else book["wake", level][:2]
                self.let_in(scheduler, coming)
                open_ones[task] = (door, scheduler.running(), {})
            worker = scheduler.tick((), word)
            if worker in open_ones:
                found.extend(self.told(open_ones.pop(worker)))
            for _, _, works in open_ones.values():
                if type(worker) is int:
                    works[worker] = works.get(worker, 0) + 1
        for wait in open_ones.values():
            found.extend(self.told(wait))
        return found

    def let_in(self, scheduler, coming):
        if coming[0] == "come":
            scheduler.come(coming[1])
        else:
            scheduler.enter_by(coming[1], "wake")

    def told(self, wait):
        door, runner, works = wait
        return [(*door, other == runner, works[other]) for other in works]


class Papers(unittest.TestCase):
    def test_example(self):
        self.assertIs(is_life_paper(FEED, 1, "back", ("endless", (("ready", 0, 1), ()), (("way",),))), True)

    def test_one_for_each_door(self):
        words = []
        for book, level, place, runs in all_doors():
            paper, most = life_paper(book, level, place, runs=runs), most_work(book, level, place, runs=runs)
            self.assertIs(is_life_paper(book, level, place, paper, runs=runs), True)
            firsts = first_stands(book, level, place, runs=runs)
            words.append(paper and paper[0])
            if not firsts:
                self.assertIsNone(paper)
                continue
            self.assertEqual(paper[0], "endless" if most is None else "most")
            self.assertIn(paper[1][0], firsts)
            last = last_of(book, level, paper[1])
            if most is None:
                self.assertEqual(last_of(book, level, (last, paper[2])), last)
                self.assertTrue(any(step in WORK for step in paper[2]))
            else:
                self.assertEqual(sum(step in WORK for step in paper[1][1]), most)
        self.assertEqual(set(words), {None, "most", "endless"})

    def test_none_stands_for_it_where_there_is_no_first_side_stand(self):
        self.assertIs(is_life_paper(FEED, 0, "back", None, runs=True), True)
        self.assertIs(is_life_paper(FEED, 0, "back", None), False)
        for value in (*OTHERS, ("most", (OUT, ()), ()), ("most", (("runs", 1, 1), ()), ((("runs", 1, 1), 0),))):
            if value is not None:
                self.assertIs(is_life_paper(FEED, 0, "back", value, runs=True), False)

    def test_correct_ones_of_others(self):
        word, life, table = life_paper(BOUND, 1, "back")
        right = ("most", (("ready", 1, 3), (("on",), ("bell",), ("on",), ("way",))), table)
        self.assertEqual(steps_from(BOUND, 1, ("runs", 1, 2))[("bell",)], ("ready", 1, 2))
        self.assertIs(is_life_paper(BOUND, 1, "back", right), True)
        # Greater numbers where the life allows it.
        greater = tuple((stand, 3 if stand in (OUT, ("ready", 1, 3)) else number) for stand, number in table)
        self.assertNotEqual(greater, table)
        self.assertIs(is_life_paper(BOUND, 1, "back", ("most", life, greater)), True)
        # More side stands than are reached, closed or not; they may have numbers beyond the work of the life.
        asleep, ready = ("asleep", 0, 0), ("ready", 0, 1)
        for more, right in (([(asleep, 0)], True), ([(asleep, FORTY)], True), ([(ready, 1)], False),
                            ([(asleep, 0), (ready, 1)], True), ([(asleep, 1), (ready, 1)], False),
                            ([(asleep, 0), (ready, 0)], False), ([(asleep, 7), (ready, 8)], True)):
            value = ("most", life, tuple(sorted([*table, *more])))
            self.assertIs(is_life_paper(BOUND, 1, "back", value), right, more)
        # Other lives and rings without end.
        for life, ring in (((OUT, (("come", 0),)), (("way",), ("way",))),
                           ((("ready", 0, 1), (("way",),)), (("sleep",), ("wake",))),
                           ((("asleep", 1, 1), ()), (("wake",), ("way",), ("sleep",)))):
            right = last_of(FEED, 1, life)
            closed = last_of(FEED, 1, (right, ring)) == right
            self.assertIs(is_life_paper(FEED, 1, "back", ("endless", life, ring)), closed)

    def test_with_one_part_changed(self):
        for book, level, place, runs in all_doors()[::3]:
            paper = life_paper(book, level, place, runs=runs)
            if paper is None:
                continue
            word, life, rest = paper
            lives = [None, [], list(life), (life[0],), (*life, ()), (life[0], list(life[1])), (life[1], life[0]),
                     (BEHIND, life[1]), (BEHIND, ()), (life[0], (*life[1], ("come", 9))), (life[0], (None,)),
                     (life[0], (*life[1], ["on"])), (life[0], (*life[1], "on")), (life[0], None),
                     (life[0], (("out",), *life[1])), (list(life[0]), life[1])]
            for other in lives:
                self.assert_refused(book, level, place, runs, (word, other, rest))
            for other in (list(paper), paper[:2], (*paper, None), ("Most", *paper[1:]), (None, life, rest),
                          ("endless" if word == "most" else "most", life, rest), (word, rest, life), rest, life, None):
                self.assert_refused(book, level, place, runs, other)
            for other in (list(rest), None, rest and rest[0], (*rest, None), (None,), ((),)):
                self.assert_refused(book, level, place, runs, (word, life, other))
            if word == "most":
                self.assert_bounds_refused(book, level, place, runs, paper)
            else:
                self.assert_rings_refused(book, level, place, runs, paper)

    def assert_bounds_refused(self, book, level, place, runs, paper):
        word, life, table = paper
        firsts = first_stands(book, level, place, runs=runs)
        for index, (stand, number) in enumerate(table):
            # All of them are reached, and the numbers are as small as they can be.
            tables = [(*table[:index], *table[index + 1:]), (*table[:index + 1], *table[index:])]
            for pair in ((stand, number - 1), (stand, None), (stand, str(number)), (stand,), [stand, number],
                         (stand, number, 0), (number, stand), (stand, bool(number)), (list(stand), number),
                         (("ready", 9, 1), number), (stand, FORTY + 1)):
                tables.append((*table[:index], pair, *table[index + 1:]))
            if stand in firsts:
                tables.append((*table[:index], (stand, most_work(book, level, place, runs=runs) + 1),
                               *table[index + 1:]))
            for changed in tables:
                self.assert_refused(book, level, place, runs, (word, life, changed))
        if len(table) > 1:
            self.assert_refused(book, level, place, runs, (word, life, table[::-1]))
        if any(step in WORK for step in life[1]):
            self.assert_refused(book, level, place, runs, (word, (life[0], life[1][:-1]), table))

    def assert_rings_refused(self, book, level, place, runs, paper):
        word, life, ring = paper
        for changed in ((), ring[:-1], (*ring, ("come", 0)), (*ring, ("out",)), ring + (None,), (("bell",), ("wake",))):
            self.assert_refused(book, level, place, runs, (word, life, changed))

    def assert_refused(self, book, level, place, runs, value):
        self.assertIs(is_life_paper(book, level, place, value, runs=runs), False, value)

    def test_booleans_are_no_numbers(self):
        life = (OUT, (("come", 0), ("way",)))
        self.assertEqual(steps_from(FEED, 1, OUT)[("come", False)], ("ready", 0, 1))
        for step in (("come", False), ("come", True)):
            self.assert_refused(FEED, 1, "back", False, ("endless", (OUT, (step,)), (("way",),)))
        self.assertIs(is_life_paper(FEED, 1, "back", ("endless", life, (("way",),))), True)
        self.assert_refused(FEED, 1, "back", False, ("endless", (("ready", False, 1), ()), (("way",),)))
        self.assert_refused(FEED, 1, "back", False, ("endless", (("ready", 0, True), ()), (("way",),)))

    def test_a_life_begins_at_a_first_side_stand(self):
        # Without end, from each side stand on a ring; those that are no first ones begin no life.
        rings = 0
        for book, level, place, runs in all_doors()[::2]:
            firsts = first_stands(book, level, place, runs=runs)
            for stand in side_stands(book, level):
                for step, behind in steps_from(book, level, stand).items():
                    back = [last for last, end in steps_from(book, level, behind).items() if end == stand]
                    for last in back:
                        if step in WORK or last in WORK:
                            paper = ("endless", (stand, ()), (step, last))
                            self.assertIs(is_life_paper(book, level, place, paper, runs=runs), stand in firsts)
                            rings += stand not in firsts
        self.assertGreater(rings, 100)

    def test_steps_of_other_kinds(self):
        word, life, table = life_paper(BOUND, 1, "back")
        for step in (*OTHERS, ([], 0), ({}, 0), ("wake", 0), ("on", 0), (["come"], 0), ("come", []), ("come", {}),
                     ("come",), ("come", 0, 0), ("come", FORTY), ["on"], "on", ("lost",), ("used",), ([],), FEED):
            for steps in ((step,), (("on",), step)):
                self.assert_refused(BOUND, 1, "back", False, (word, (life[0], steps), table))

    def test_a_ring_without_work_is_none(self):
        self.assert_refused(FEED, 1, "back", False, ("endless", (("ready", 0, 1), ()), ()))

    def test_values_of_other_kinds(self):
        for value in (*OTHERS, *BOOKS, LOAD, doors(FEED)):
            self.assert_refused(FEED, 1, "back", False, value)


class Errors(unittest.TestCase):
    def test_books(self):
        for book in NO_BOOKS:
            for function in (lambda: doors(book), lambda: first_stands(book, None, None, runs=None),
                             lambda: steps_from(book, None, None), lambda: most_work(book, None, None, runs=None),
                             lambda: life_paper(book, None, None, runs=None),
                             lambda: is_life_paper(book, None, None, None, runs=None)):
                with self.assertRaises(InvalidBook):
                    function()

    def test_doors(self):
        every = [(level, place) for level in (*OTHERS, 3, FEED) for place in ("back", "front", None, 0, [], FEED)]
        every += [(0, place) for place in OTHERS]
        for book in (FEED, FRONT):
            for level, place in every:
                if type(level) is int and any((level, place) == door for door in doors(book)):
                    continue
                self.assert_refused(book, level, place, False)
        self.assert_refused(FEED, 0, "front", None)
        self.assert_refused(FEED, False, "back", False)
        self.assert_refused(FEED, True, "back", False)

    def test_runs(self):
        for value in (*OTHERS, FEED, 0, 1):
            if type(value) is not bool:
                self.assert_refused(FEED, 0, "back", value)

    def assert_refused(self, book, level, place, runs):
        for function in (first_stands, most_work, life_paper,
                         lambda *door, runs: is_life_paper(*door, None, runs=runs)):
            with self.assertRaises(InvalidOperation):
                function(book, level, place, runs=runs)

    def test_levels(self):
        for level in (*OTHERS, 3, FEED):
            if type(level) is int and level in (0, 1):
                continue
            with self.assertRaises(InvalidNumber) as caught:
                steps_from(FEED, level, None)
            self.assertIs(caught.exception.number, level)


if __name__ == "__main__":
    unittest.main()
