"""Stage 5: class Queues."""

import random
import unittest

from tests.samples import FEED, FORTY, FORTY_ONE, HUNDRED, OTHERS
from twoandabell.errors import InvalidNumber, InvalidQueue
from twoandabell.run.queues import Queues

NO_TASKS = [value for value in OTHERS if not (type(value) is int and 0 <= value <= FORTY)]


def filled():
    """Three queues, the middle one empty."""
    queues = Queues(3)
    for task, level, place in ((4, 0, "back"), (1, 0, "back"), (7, 2, "front"), (9, 2, "front"), (FORTY, 2, "back")):
        queues.enter(task, level, place)
    return queues


class Many(unittest.TestCase):
    def test_example(self):
        queues = Queues(2)
        for task, level, place in ((0, 1, "back"), (1, 0, "back"), (2, 1, "front")):
            self.assertIsNone(queues.enter(task, level, place))
        self.assertEqual(
            [str(queues), queues.best, queues.is_ahead(0, 2), queues.tasks(), queues.pick(), queues[0]],
            ["0: 1, 1: 2 0", 0, False, (1, 2, 0), 1, ()])

    def test_empty_ones(self):
        for many in (1, 2, 3):
            queues = Queues(many)
            self.assertEqual((len(queues), bool(queues), queues.best, queues.tasks(), queues.pick()),
                             (0, False, None, (), None))
            self.assertEqual([queues[level] for level in range(many)], [()] * many)
        for many in (*OTHERS, 0, 4, FEED, [1]):
            if type(many) is int and many in (1, 2, 3):
                continue
            with self.assertRaises(InvalidNumber) as caught:
                Queues(many)
            self.assertIs(caught.exception.number, many)

    def test_what_is_told(self):
        queues = filled()
        self.assertEqual([queues[level] for level in (0, 1, 2)], [(4, 1), (), (9, 7, FORTY)])
        self.assertEqual(queues.tasks(), (4, 1, 9, 7, FORTY))
        self.assertEqual(len(queues), 5)
        self.assertIs(bool(queues), True)
        self.assertEqual(queues.best, 0)
        self.assertEqual([queues.level_of(task) for task in queues.tasks()], [0, 0, 2, 2, 2])
        self.assertEqual(str(queues), f"0: 4 1, 1: none, 2: 9 7 {FORTY}")
        for task in queues.tasks():
            self.assertIs(task in queues, True)

    def test_in_with_every_value(self):
        queues = filled()
        for value in (*OTHERS, FEED, queues, (4,), [4], "4"):
            self.assertIs(value in queues, type(value) is int and value in (1, 4, 7, 9, FORTY))
        queues.leave(1)
        self.assertIs(True in queues, False)
        queues.enter(0, 1, "back")
        self.assertIs(False in queues, False)
        self.assertIs(0 in queues, True)

    def test_who_is_ahead(self):
        queues = filled()
        order = queues.tasks()
        for at, task in enumerate(order):
            for behind, other in enumerate(order):
                self.assertIs(queues.is_ahead(task, other), at < behind)

    def test_leaving_and_picking(self):
        queues = filled()
        self.assertIsNone(queues.leave(4))
        self.assertEqual((queues[0], queues.best), ((1,), 0))
        queues.leave(7)
        self.assertEqual(queues[2], (9, FORTY))
        self.assertEqual([queues.pick(), queues.best, queues.pick(), queues.pick(), queues.best, queues.pick()],
                         [1, 2, 9, FORTY, None, None])
        self.assertFalse(queues)
        # Who has left can enter again.
        queues.enter(4, 1, "front")
        self.assertEqual(str(queues), "0: none, 1: 4, 2: none")

    def test_as_lists(self):
        source = random.Random("queues")
        for _ in range(60):
            many = source.randint(1, 3)
            queues, rows = Queues(many), [[] for _ in range(many)]
            for _ in range(60):
                self.step(source, queues, rows)
                there = [task for row in rows for task in row]
                levels = [level for level in range(many) if rows[level]]
                self.assertEqual([list(queues[level]) for level in range(many)], rows)
                self.assertEqual(queues.tasks(), tuple(there))
                self.assertEqual((len(queues), bool(queues)), (len(there), bool(there)))
                self.assertEqual(queues.best, levels[0] if levels else None)
                for level in levels:
                    self.assertEqual([queues.level_of(task) for task in rows[level]], [level] * len(rows[level]))

    def step(self, source, queues, rows):
        there = [task for row in rows for task in row]
        choice = source.random()
        if choice < 0.6 and len(there) < 12:
            task = source.choice([number for number in range(12) if number not in there])
            level, place = source.randrange(len(rows)), source.choice(("front", "back"))
            queues.enter(task, level, place)
            rows[level].insert(0 if place == "front" else len(rows[level]), task)
        elif choice < 0.8 and there:
            task = source.choice(there)
            queues.leave(task)
            [row for row in rows if task in row][0].remove(task)
        else:
            self.assertEqual(queues.pick(), there[0] if there else None)
            for row in [row for row in rows if row][:1]:
                row.pop(0)

    def test_forty_tasks_in_a_queue(self):
        queues = Queues(1)
        for task in range(40):
            queues.enter(FORTY - task, 0, "back" if task % 2 else "front")
        right = [FORTY - task for task in range(38, -1, -2)] + [FORTY - task for task in range(1, 40, 2)]
        self.assertEqual(queues[0], tuple(right))
        self.assertEqual(len(queues), 40)
        self.assertEqual([queues.pick() for _ in range(41)], [*right, None])

    def test_returned_tuples_stay(self):
        queues = filled()
        row, tasks = queues[2], queues.tasks()
        self.assertIsInstance(row, tuple)
        self.assertIsInstance(tasks, tuple)
        queues.leave(9)
        queues.enter(9, 0, "back")
        self.assertEqual((row, tasks), ((9, 7, FORTY), (4, 1, 9, 7, FORTY)))

    def test_twins(self):
        queues = filled()
        twin = queues.twin()
        self.assertIsInstance(twin, Queues)
        self.assertEqual(twin, queues)
        twin.pick()
        twin.enter(3, 2, "front")
        self.assertEqual(str(queues), str(filled()))
        self.assertEqual(str(twin), f"0: 1, 1: none, 2: 3 9 7 {FORTY}")
        self.assertNotEqual(twin, queues)
        queues.leave(9)
        self.assertEqual(twin[2], (3, 9, 7, FORTY))

    def test_equality(self):
        self.assertTrue(filled() == filled())
        self.assertFalse(filled() != filled())
        self.assertFalse(Queues(2) == Queues(3))
        self.assertTrue(Queues(2) == Queues(2))
        for change in (lambda queues: queues.pick(), lambda queues: queues.enter(0, 1, "back")):
            queues = filled()
            change(queues)
            self.assertFalse(queues == filled())
        # The same tasks in another order, and in another queue.
        one, two, three = Queues(2), Queues(2), Queues(2)
        for queues, rows in ((one, ((0, 0), (1, 0))), (two, ((1, 0), (0, 0))), (three, ((0, 0), (1, 1)))):
            for task, level in rows:
                queues.enter(task, level, "back")
        self.assertTrue(one != two and one != three and two != three)
        for value in (*OTHERS, FEED, str(filled()), ((4, 1), (), (9, 7, FORTY))):
            self.assertFalse(filled() == value)
            self.assertFalse(value == filled())

    def test_text(self):
        self.assertEqual(str(Queues(1)), "0: none")
        self.assertEqual(str(Queues(3)), "0: none, 1: none, 2: none")
        queues = Queues(2)
        queues.enter(1, 0, "back")
        queues.enter(4, 0, "front")
        self.assertEqual(str(queues), "0: 4 1, 1: none")

    def test_no_iteration(self):
        for call in (iter, list, tuple, dict, sorted, set, sum, enumerate):
            with self.assertRaises(TypeError):
                call(filled())
        with self.assertRaises(TypeError):
            for _ in Queues(1):
                pass

    def test_nothing_is_set_from_outside(self):
        queues = filled()
        with self.assertRaises(AttributeError):
            queues.best = 1
        with self.assertRaises(TypeError):
            queues[0] = (3,)


class Errors(unittest.TestCase):
    def assert_raised(self, error, call, number=None):
        """Assert that a call raises an error, and changes nothing."""
        queues = filled()
        with self.assertRaises(error) as caught:
            call(queues)
        self.assertIs(type(caught.exception), error)
        if error is InvalidNumber:
            self.assertIs(caught.exception.number, number)
        self.assertEqual(queues, filled())

    def test_entering(self):
        for task in (*NO_TASKS, FEED, filled(), "4", 4, 1, 7, 9, FORTY):
            for level, place in ((0, "back"), (9, []), (None, "back")):
                self.assert_raised(InvalidQueue, lambda queues: queues.enter(task, level, place))
        for level in (*NO_TASKS, 3, FORTY, FORTY_ONE, HUNDRED, FEED):
            for place in ("back", "front", None, []):
                self.assert_raised(InvalidNumber, lambda queues: queues.enter(5, level, place), level)
        for place in (*OTHERS, "Front", "kept", ("back",), ["back"], FEED):
            self.assert_raised(InvalidQueue, lambda queues: queues.enter(5, 1, place))
        queues = Queues(1)
        with self.assertRaises(InvalidNumber):
            queues.enter(0, 1, "back")

    def test_tasks_that_are_not_there(self):
        for task in (*NO_TASKS, FEED, filled(), 0, 5, FORTY - 1, "4", (4,)):
            self.assert_raised(InvalidQueue, lambda queues: queues.leave(task))
            self.assert_raised(InvalidQueue, lambda queues: queues.level_of(task))
            self.assert_raised(InvalidQueue, lambda queues: queues.is_ahead(task, 4))
            self.assert_raised(InvalidQueue, lambda queues: queues.is_ahead(4, task))
            self.assert_raised(InvalidQueue, lambda queues: queues.is_ahead(task, task))

    def test_levels_that_are_not_there(self):
        for level in (*NO_TASKS, 3, FORTY, FEED, filled(), "0", (0,), (0, 1)):
            self.assert_raised(InvalidNumber, lambda queues: queues[level], level)


if __name__ == "__main__":
    unittest.main()
