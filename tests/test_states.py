"""[0.8] and stage 4: own states and postures."""

import unittest

from tests.reference import Scheduler, some_books
from tests.samples import BOOKS, FEED, FORTY, HUNDRED, LATE, LOAD, ONE, OTHERS, WIDE
from twoandabell.book.books import Book, Level
from twoandabell.book.states import fresh, is_state, moved, moves_alone, posture_after, postures, way_to, worked
from twoandabell.errors import InvalidBook, InvalidNumber, InvalidOperation, InvalidState, UnknownName

MANY_BOOKS = (*BOOKS, *some_books(60, "states"))
NO_BOOKS = (*OTHERS, *FEED.levels, FEED.levels, LOAD)


def states_of(book):
    """All own states of a book."""
    rows = [[(index, None)] if level.ticks is None else [(index, left) for left in range(level.ticks + 1)]
            for index, level in enumerate(book)]
    return [state for row in rows for state in row]


def postures_by_form(book):
    return [(mode, *state) for mode in ("asleep", "ready", "runs") for state in states_of(book)
            if mode == "asleep" or state[1] != 0]


def neighbours(row):
    """Tuples that differ from one a little, and lists."""
    for at in range(len(row)):
        for value in (None, True, False, "0", -1, 3, 4, FORTY, HUNDRED, (), [], {}, FEED, row[at], [row[at]]):
            yield (*row[:at], value, *row[at + 1:])
        yield (*row[:at], *row[at + 1:])
    yield list(row)
    yield (*row, 0)
    yield (*row, None)
    yield (row,)


def is_among(value, rows):
    """Whether just this value is among some, `True` not being 1."""
    return any(value == row and repr(value) == repr(row) for row in rows)


class OwnStates(unittest.TestCase):
    def test_example(self):
        self.assertEqual(
            [fresh(FEED, 1), worked(FEED, (1, 2)), moved(FEED, "used", (0, 1)), moved(FEED, "lost", (1, 1))],
            [(1, 2), (1, 1), ((1, 2), "back"), ((1, 1), "front")])

    def test_forms(self):
        for book in MANY_BOOKS:
            right = states_of(book)
            for state in right:
                self.assertIs(is_state(book, state), True)
                for value in neighbours(state):
                    self.assertIs(is_state(book, value), is_among(value, right), value)
            for value in (*OTHERS, *BOOKS, *FEED.levels):
                self.assertIs(is_state(book, value), is_among(value, right))
        self.assertTrue(is_state(WIDE, (2, None)))
        for value in ((2, 1), (2, 0), (0, None), (0, 3), (1, 4), (3, None), (0, -1), (0, True), [0, 1], (0,),
                      (0, 1, 1)):
            self.assertFalse(is_state(WIDE, value))

    def test_fresh(self):
        self.assertEqual([fresh(WIDE, rank) for rank in (0, 1, 2)], [(0, 2), (2, None), (1, 3)])
        for book in MANY_BOOKS:
            for rank, level in enumerate(book.ranks):
                self.assertEqual(fresh(book, rank), (level, book["ticks", level]))
            for rank in (*OTHERS, len(book.ranks), FEED):
                if not is_among(rank, range(len(book.ranks))):
                    with self.assertRaises(InvalidNumber) as caught:
                        fresh(book, rank)
                    self.assertIs(caught.exception.number, rank)

    def test_worked(self):
        self.assertEqual([worked(WIDE, state) for state in ((0, 2), (0, 1), (1, 3), (2, None))],
                         [(0, 1), (0, 0), (1, 2), (2, None)])
        for state in ((0, 0), (1, 0), (2, 0), (0, None), (0, 3), [0, 1], (0, True), None):
            with self.assertRaises(InvalidState):
                worked(WIDE, state)

    def test_moved_by_hand(self):
        # In WIDE the slices are 2, 3 and none.
        for word, state, right in (
                ("used", (0, 0), ((1, 3), "front")), ("used", (0, 1), ((1, 3), "front")),
                ("used", (1, 2), ((2, None), "back")), ("used", (2, None), ((0, 2), "back")),
                # A kept rest that fits, that is nothing, that is greater than the slice.
                ("wake", (0, 1), ((0, 1), "front")), ("wake", (0, 0), ((0, 2), "front")),
                ("wake", (1, 3), ((0, 2), "back")), ("wake", (1, 1), ((0, 1), "back")),
                ("wake", (1, 0), ((0, 2), "back")),
                # From a level with a slice to one without, and the reverse.
                ("way", (0, 1), ((2, None), "front")), ("lost", (0, 2), ((2, None), "back")),
                ("way", (2, None), ((1, 3), "back")), ("wake", (2, None), ((1, 3), "front")),
                ("lost", (2, None), ((2, None), "back")), ("way", (1, 3), ((0, 2), "front")),
                # A new rest.
                ("lost", (1, 1), ((1, 3), "front")), ("lost", (1, 0), ((1, 3), "front"))):
            self.assertEqual(moved(WIDE, word, state), right, (word, state))

    def test_moved_as_by_the_rules(self):
        for book in MANY_BOOKS:
            for state in states_of(book):
                for word in ("used", "wake", "way", "lost"):
                    scheduler = Scheduler(book)
                    scheduler.come(0)
                    task = scheduler.tasks[0]
                    task.level, task.left = state
                    scheduler.enter_by(0, word)
                    right = ((task.level, task.left), book[word, state[0]][1])
                    self.assertEqual(moved(book, word, state), right)
                    self.assertTrue(is_state(book, right[0]))

    def test_errors_in_their_order(self):
        for book in NO_BOOKS:
            for call in (lambda: is_state(book, (0, 1)), lambda: fresh(book, []), lambda: worked(book, []),
                         lambda: moved(book, [], [])):
                with self.assertRaises(InvalidBook):
                    call()
        for word in (*OTHERS, FEED, "come", "ticks", "takes", "on", "sleep", "Used", ["used"], ("used",)):
            for state in ((0, 1), [], None):
                with self.assertRaises(UnknownName) as caught:
                    moved(FEED, word, state)
                self.assertIs(caught.exception.word, word)
        for state in (*OTHERS, FEED, (0, 2), (2, None), (1, 3), [0, 1], (0, None), (0, 1, 1), (True, 1)):
            if is_among(state, states_of(FEED)):
                continue
            for word in ("used", "wake", "way", "lost"):
                with self.assertRaises(InvalidState):
                    moved(FEED, word, state)
            with self.assertRaises(InvalidState):
                worked(FEED, state)


class Postures(unittest.TestCase):
    def test_example(self):
        self.assertEqual(
            [moves_alone(FEED, ("runs", 1, 2)), posture_after(FEED, ("ready", 1, 2), "on"), len(postures(FEED))],
            [("lost", "on", "sleep", "way"), ("runs", 1, 1), 7])
        self.assertEqual(way_to(FEED, ("ready", 1, 1)), (1, ("on", "lost")))

    def test_moves(self):
        for book in MANY_BOOKS:
            for posture in postures_by_form(book):
                mode, level, _ = posture
                right = ("wake",) if mode == "asleep" else ("on", "sleep", "way")
                if mode == "runs" and book["takes", level] > 0:
                    right = ("lost", *right)
                self.assertEqual(moves_alone(book, posture), right)

    def test_postures_by_hand(self):
        for posture, move, right in (
                (("ready", 0, 2), "on", ("runs", 0, 1)), (("runs", 0, 1), "on", ("ready", 1, 3)),
                (("ready", 0, 1), "on", ("ready", 1, 3)), (("ready", 0, 1), "sleep", ("asleep", 0, 0)),
                (("runs", 0, 2), "sleep", ("asleep", 0, 1)), (("ready", 1, 3), "way", ("ready", 0, 2)),
                (("ready", 1, 2), "way", ("ready", 0, 1)), (("runs", 1, 1), "way", ("ready", 0, 2)),
                (("runs", 2, None), "on", ("runs", 2, None)), (("ready", 2, None), "sleep", ("asleep", 2, None)),
                (("runs", 2, None), "lost", ("ready", 2, None)), (("runs", 1, 2), "lost", ("ready", 1, 3)),
                (("asleep", 0, 0), "wake", ("ready", 0, 2)), (("asleep", 1, 3), "wake", ("ready", 0, 2)),
                (("asleep", 2, None), "wake", ("ready", 1, 3)), (("ready", 2, None), "way", ("ready", 1, 3))):
            self.assertEqual(posture_after(WIDE, posture, move), right, (posture, move))

    def test_next_postures_as_by_the_rules(self):
        for book in MANY_BOOKS:
            for posture in postures_by_form(book):
                for move in moves_alone(book, posture):
                    self.assertEqual(posture_after(book, posture, move), self.by_a_scheduler(book, posture, move))

    def by_a_scheduler(self, book, posture, move):
        """What the one task of a scheduler comes to from this posture."""
        scheduler = Scheduler(book)
        scheduler.come(0)
        task = scheduler.tasks[0]
        task.mode, task.level, task.left = posture
        scheduler.rows = {level: [0] if task.mode == "ready" and level == task.level else [] for level in range(3)}
        if move == "wake":
            scheduler.enter_by(0, "wake")
        else:
            scheduler.tick((), "bell" if move == "lost" else move)
        return task.picture()

    def test_all_postures(self):
        for book in MANY_BOOKS:
            found = {("ready", *fresh(book, rank)): 0 for rank in range(len(book.ranks))}
            steps, layer = 0, list(found)
            while layer:
                steps += 1
                after = [posture_after(book, one, move) for one in layer for move in moves_alone(book, one)]
                layer = []
                for posture in after:
                    if posture not in found:
                        found[posture] = steps
                        layer.append(posture)
            self.assertEqual(postures(book), tuple(sorted(found)))
            for posture in postures_by_form(book):
                if posture in found:
                    self.assert_way(book, posture, found[posture])
                else:
                    with self.assertRaises(InvalidState):
                        way_to(book, posture)

    def assert_way(self, book, posture, many):
        rank, moves = way_to(book, posture)
        self.assertIsInstance(moves, tuple)
        self.assertEqual(len(moves), many)
        at = ("ready", *fresh(book, rank))
        for move in moves:
            self.assertIn(move, moves_alone(book, at))
            at = posture_after(book, at, move)
        self.assertEqual(at, posture)

    def test_postures_of_one(self):
        self.assertEqual(postures(ONE), (("asleep", 0, 0), ("ready", 0, 1)))
        self.assertEqual(way_to(ONE, ("asleep", 0, 0)), (0, ("sleep",)))
        self.assertEqual(way_to(ONE, ("ready", 0, 1))[1], ())
        with self.assertRaises(InvalidState):
            way_to(ONE, ("runs", 0, 1))
        # A posture has moves by its form alone, reached or not.
        self.assertEqual(moves_alone(ONE, ("runs", 0, 1)), ("on", "sleep", "way"))
        self.assertEqual(posture_after(ONE, ("asleep", 0, 1), "wake"), ("ready", 0, 1))

    def test_a_level_that_no_move_leads_to(self):
        book = Book(*FEED.levels, Level.plain(2), ranks=(0, 1))
        self.assertEqual(postures(book), postures(FEED))
        for mode in ("asleep", "ready", "runs"):
            with self.assertRaises(InvalidState):
                way_to(book, (mode, 2, None))
        self.assertEqual(moves_alone(book, ("runs", 2, None)), ("lost", "on", "sleep", "way"))

    def test_wrong_books(self):
        for book in NO_BOOKS:
            for call in (lambda: moves_alone(book, []), lambda: posture_after(book, [], []), lambda: postures(book),
                         lambda: way_to(book, [])):
                with self.assertRaises(InvalidBook):
                    call()

    def test_wrong_postures(self):
        for book in (FEED, ONE, WIDE):
            right = postures_by_form(book)
            wrong = [value for posture in right for value in neighbours(posture) if not is_among(value, right)]
            wrong += [("ready", *state) for state in states_of(book) if state[1] == 0]
            wrong += [("runs", *state) for state in states_of(book) if state[1] == 0]
            for posture in (*OTHERS, *wrong, FEED, ("ended",), ("away",), ("Ready", 0, 1), (["ready"], 0, 1)):
                for call in (lambda: moves_alone(book, posture), lambda: posture_after(book, posture, []),
                             lambda: way_to(book, posture)):
                    with self.assertRaises(InvalidState):
                        call()

    def test_moves_that_are_not_possible(self):
        for posture in postures_by_form(WIDE):
            for move in (*OTHERS, FEED, "on", "sleep", "way", "lost", "wake", "end", "bell", "used", ("on",), ["on"]):
                if move not in moves_alone(WIDE, posture):
                    with self.assertRaises(InvalidOperation):
                        posture_after(WIDE, posture, move)
        with self.assertRaises(InvalidOperation):
            posture_after(FEED, ("runs", 0, 1), "lost")
        self.assertEqual(posture_after(LATE, ("runs", 1, 1), "lost"), ("ready", 1, 1))


if __name__ == "__main__":
    unittest.main()
