"""[9.1] to [9.3]: stands of two tasks, their moves, and loads of moves."""

import random
import unittest

from tests.reference import moved, some_book, some_books, stands_by_form
from tests.samples import BOOKS, FEED, FORTY, FORTY_ONE, HUNDRED, LATE, LOAD, ONE, OTHERS, WIDE
from twoandabell.errors import InvalidBook, InvalidLoad, InvalidNumber, InvalidOperation, InvalidStand
from twoandabell.pair import stands
from twoandabell.pair.stands import (
    FIRST, exchanged, is_stand, load_of, moves_at, stand_after, stand_of, worker_at)
from twoandabell.run.loads import chart, is_load
from twoandabell.run.processors import Processor

AWAY, ENDED = ("away",), ("ended",)
NO_BOOKS = (*OTHERS, *FEED.levels, FEED.levels, LOAD, Processor(FEED))
MANY_BOOKS = (*BOOKS, *some_books(8, "stands"))
TICKS = [("tick", word) for word in ("end", "on", "sleep", "way")]
NO_MOVES = [
    *OTHERS, FEED, "bell", "tick", ("tick",), ("on",), ("bell", 0), ("bell", "bell"), ("tick", "bell"), ("tick", "lost"),
    ("tick", "On"), ("tick", "on", 0), ("tick", None), ("tick", ["on"]), ["bell"], ["tick", "on"], ("come",),
    ("come", 0), ("come", 2, 0), ("come", -1, 0), ("come", True, 0), ("come", 0, True), ("come", False, 0),
    ("come", 0, -1), ("come", 0, None), ("come", 0, FORTY_ONE), ("come", 0, HUNDRED), ("come", 0, 0, 0),
    ("come", "0", 0), ("come", [0], 0), ["come", 0, 0], ("wake",), ("wake", 2), ("wake", True), ("wake", False),
    ("wake", 0, 0), ("wake", None), ["wake", 0], ("end", 0), (("bell",),), ("Come", 0, 0), ("ended",), ("away",),
]


def is_among(value, rows):
    """Whether just this value is among some, `True` not being 1."""
    return any(value == row and repr(value) == repr(row) for row in rows)


def right_moves(book, stand):
    """The moves that are possible, by the letter of [9.2]."""
    moves = [("bell",)]
    for task in (0, 1):
        if stand[task] == AWAY:
            moves += [("come", task, rank) for rank in range(len(book.ranks))]
        elif stand[task][0] == "asleep":
            moves.append(("wake", task))
    if any(part[0] in ("ready", "runs") for part in stand[:2]):
        moves += TICKS
    return tuple(sorted(moves))


def right_worker(book, stand):
    """Who leaves a trace in a tick in which the one that works ends."""
    behind = moved(book, stand, ("tick", "end"))
    if behind is None:
        return None
    return [task for task in (0, 1) if behind[task] == ENDED and stand[task] != ENDED][0]


class Forms(unittest.TestCase):
    def test_first(self):
        self.assertEqual(FIRST, (("away",), ("away",), None))
        self.assertEqual(stands.FIRST, FIRST)
        for book in MANY_BOOKS:
            self.assertIs(is_stand(book, FIRST), True)

    def test_all_forms(self):
        for book in MANY_BOOKS:
            right = {repr(stand) for stand in stands_by_form(book)}
            for stand in stands_by_form(book):
                self.assertIs(is_stand(book, stand), True)
            for stand in stands_by_form(book)[::17]:
                for value in self.neighbours(stand):
                    self.assertIs(is_stand(book, value), repr(value) in right, value)

    def neighbours(self, stand):
        for ahead in (0, 1, None, True, False, 2, -1, "0", (), [0], {}):
            yield (*stand[:2], ahead)
        for task in (0, 1):
            part = stand[task]
            for value in (AWAY, ENDED, ("asleep",), ("ready",), ("runs", 0), ("behind",), ("away", None), list(part),
                          "away", None, 0, (), (part,), (*part, 0), ("ready", 0, 1), ("runs", 0, 1), ("runs", 0, 0),
                          ("ready", 0, 0), ("asleep", 0, 0), ("asleep", 0, None), ("ready", True, 1),
                          ("ready", 0, True), ("asleep", 0, False), ("ready", 0, 4), ("ready", 3, 1), ("Ready", 0, 1),
                          ("ready", -1, 1), (["ready"], 0, 1), ({}, 0, 1), ("out",)):
                yield (value, stand[1], stand[2]) if task == 0 else (stand[0], value, stand[2])
        yield list(stand)
        yield stand[:2]
        yield (*stand, None)

    def test_other_values(self):
        for book in BOOKS:
            for value in (*OTHERS, *BOOKS, Processor(book), (AWAY, AWAY), (AWAY, AWAY, None, None), [AWAY, AWAY, None]):
                self.assertIs(is_stand(book, value), False)

    def test_some_by_hand(self):
        for value, right in (
                ((("runs", 1, 1), ("runs", 0, 1), None), False), ((("runs", 1, 1), ("ready", 0, 1), None), True),
                ((("ready", 1, 1), ("ready", 1, 2), None), False), ((("ready", 1, 1), ("ready", 1, 2), 1), True),
                ((("ready", 1, 1), ("ready", 0, 1), 1), False), ((("ready", 1, 1), ("asleep", 1, 1), 0), False),
                ((("runs", 1, 1), ("ready", 1, 1), 0), False), ((ENDED, ENDED, None), True), ((AWAY, ENDED, 0), False),
                ((("runs", 1, 0), AWAY, None), False), ((("asleep", 1, 0), AWAY, None), True),
                ((("ready", 0, 2), AWAY, None), False), ((("ready", 2, None), AWAY, None), False)):
            self.assertIs(is_stand(FEED, value), right, value)

    def test_wrong_books(self):
        for book in NO_BOOKS:
            for function in (lambda: is_stand(book, FIRST), lambda: moves_at(book, None),
                             lambda: worker_at(book, None), lambda: stand_after(book, None, None),
                             lambda: exchanged(book, None)):
                with self.assertRaises(InvalidBook):
                    function()

    def test_wrong_stands(self):
        wrong = [*OTHERS, FEED, (AWAY, AWAY, 0), (AWAY, AWAY), (("runs", 1, 1), ("runs", 1, 1), None),
                 (("ready", 1, 1), ("ready", 1, 1), None), (("ready", 1, True), AWAY, None), [AWAY, AWAY, None]]
        for stand in wrong:
            for function in (lambda: moves_at(FEED, stand), lambda: worker_at(FEED, stand),
                             lambda: stand_after(FEED, stand, None), lambda: exchanged(FEED, stand)):
                with self.assertRaises(InvalidStand):
                    function()


class Moves(unittest.TestCase):
    def test_examples(self):
        two = stand_after(FEED, stand_after(FEED, FIRST, ("come", 0, 1)), ("come", 1, 1))
        self.assertEqual(
            [two, worker_at(FEED, two), stand_after(FEED, two, ("tick", "on")), exchanged(FEED, two)[2]],
            [(("ready", 1, 2), ("ready", 1, 2), 0), 0, (("runs", 1, 1), ("ready", 1, 2), None), 1])
        self.assertEqual(
            [stand_after(book, stand_after(book, two, ("tick", "on")), ("bell",))[2] for book in (FEED, LATE)], [0, 1])

    def test_moves_at_the_first_one(self):
        self.assertEqual(moves_at(ONE, FIRST), (
            ("bell",), ("come", 0, 0), ("come", 0, 1), ("come", 1, 0), ("come", 1, 1)))
        self.assertEqual(moves_at(ONE, (ENDED, ENDED, None)), (("bell",),))
        self.assertEqual(moves_at(FEED, (("asleep", 1, 0), ("runs", 0, 1), None)), (("bell",), *TICKS, ("wake", 0)))

    def test_all_stands_as_by_the_rules(self):
        for book in MANY_BOOKS:
            for stand in stands_by_form(book):
                moves = moves_at(book, stand)
                self.assertEqual(moves, right_moves(book, stand))
                self.assertEqual(worker_at(book, stand), right_worker(book, stand))
                for move in moves:
                    behind = stand_after(book, stand, move)
                    self.assertEqual(behind, moved(book, stand, move), (stand, move))
                    self.assertTrue(is_stand(book, behind))

    def test_moves_by_hand(self):
        # In WIDE the slices are 2, 3 and none.
        for stand, move, right in (
                (FIRST, ("come", 1, 2), (AWAY, ("ready", 1, 3), None)),
                ((("ready", 1, 1), AWAY, None), ("come", 1, 2), (("ready", 1, 1), ("ready", 1, 3), 0)),
                ((AWAY, ("ready", 1, 1), None), ("come", 0, 2), (("ready", 1, 3), ("ready", 1, 1), 1)),
                ((("ready", 0, 1), AWAY, None), ("come", 1, 2), (("ready", 0, 1), ("ready", 1, 3), None)),
                # Wakers at the front and at the back.
                ((("asleep", 0, 1), ("ready", 0, 2), None), ("wake", 0), (("ready", 0, 1), ("ready", 0, 2), 0)),
                ((("asleep", 1, 0), ("ready", 0, 1), None), ("wake", 0), (("ready", 0, 2), ("ready", 0, 1), 1)),
                ((("runs", 0, 1), ("asleep", 0, 0), None), ("wake", 1), (("runs", 0, 1), ("ready", 0, 2), None)),
                # The first one is taken away at level 1 by one of level 0, and enters at the front.
                ((("runs", 1, 2), ("ready", 0, 2), None), ("tick", "on"), (("ready", 1, 3), ("runs", 0, 1), None)),
                ((("runs", 1, 2), ("ready", 0, 2), None), ("tick", "end"), (("ready", 1, 3), ENDED, None)),
                ((("ready", 0, 1), ("runs", 1, 1), None), ("tick", "on"), (("ready", 1, 3), ("ready", 1, 3), 0)),
                ((("runs", 2, None), ("ready", 1, 2), None), ("tick", "way"), (("ready", 2, None), ("ready", 0, 1), None)),
                # One of the same level takes nothing away, and at level 0 nobody does.
                ((("runs", 1, 2), ("ready", 1, 2), None), ("tick", "on"), (("runs", 1, 1), ("ready", 1, 2), None)),
                ((("runs", 0, 1), ("ready", 0, 2), None), ("tick", "on"), (("ready", 1, 3), ("ready", 0, 2), None)),
                # Bells.
                ((("runs", 1, 2), ("ready", 1, 2), None), ("bell",), (("ready", 1, 3), ("ready", 1, 2), 0)),
                ((("runs", 0, 1), ("ready", 0, 2), None), ("bell",), (("runs", 0, 1), ("ready", 0, 2), None)),
                ((("ready", 2, None), ("runs", 2, None), None), ("bell",), (("ready", 2, None), ("ready", 2, None), 0)),
                (FIRST, ("bell",), FIRST)):
            self.assertEqual(stand_after(WIDE, stand, move), right, (stand, move))

    def test_moves_that_are_not_possible(self):
        source = random.Random("moves")
        every = [("bell",), *TICKS, *[("wake", task) for task in (0, 1)],
                 *[("come", task, rank) for task in (0, 1) for rank in (0, 1, 2, 3, FORTY)]]
        for stand in source.sample(stands_by_form(WIDE), 60):
            for move in (*NO_MOVES, *every):
                if not is_among(move, moves_at(WIDE, stand)):
                    with self.assertRaises(InvalidOperation):
                        stand_after(WIDE, stand, move)

    def test_exchanged(self):
        for book in MANY_BOOKS:
            for stand in stands_by_form(book)[::5]:
                one, two, ahead = stand
                other = exchanged(book, stand)
                self.assertEqual(other, (two, one, {0: 1, 1: 0, None: None}[ahead]))
                self.assertTrue(is_stand(book, other))
                self.assertEqual(exchanged(book, other), stand)
                worker = worker_at(book, stand)
                self.assertEqual(worker_at(book, other), None if worker is None else 1 - worker)
                for move in moves_at(book, stand):
                    swapped = (move[0], 1 - move[1], *move[2:]) if move[0] in ("come", "wake") else move
                    self.assertEqual(stand_after(book, other, swapped),
                                     exchanged(book, stand_after(book, stand, move)))


class OfProcessors(unittest.TestCase):
    def test_by_hand(self):
        processor = Processor(FEED)
        for rank in (1, 0, 1, 0):
            processor.come(rank)
        self.assertEqual(stand_of(processor, 0, 2), (("ready", 1, 2), ("ready", 1, 2), 0))
        self.assertEqual(stand_of(processor, 3, 1), (("ready", 0, 1), ("ready", 0, 1), 1))
        self.assertEqual(stand_of(processor, 0, 1), (("ready", 1, 2), ("ready", 0, 1), None))
        processor.tick("end")
        processor.tick("sleep")
        processor.tick("on")
        self.assertEqual(stand_of(processor, 1, 0), (ENDED, ("runs", 1, 1), None))
        self.assertEqual(stand_of(processor, 3, 2), (("asleep", 0, 0), ("ready", 1, 2), None))

    def test_each_call_is_a_move_or_nothing(self):
        source = random.Random("calls")
        for _ in range(25):
            book = some_book(source)
            processor = Processor(book)
            for _ in range(25):
                before = self.stands(processor)
                asleep = [task for task in range(len(processor)) if processor[task][0] == "asleep"]
                runner = processor.runner
                kind = source.choice(("come", "wake", "tick", "tick", "tick"))
                if kind == "come" and len(processor) < 7:
                    rank = source.randrange(len(book.ranks))
                    task = processor.come(rank)
                    moves = {pair: ("come", pair.index(task), rank) for pair in before if task in pair}
                elif kind == "wake" and asleep:
                    task = source.choice(asleep)
                    processor.wake_up(task)
                    moves = {pair: ("wake", pair.index(task)) for pair in before if task in pair}
                else:
                    word = source.choice(("on", "on", "on", "sleep", "way", "end", "bell"))
                    worker = processor.tick(word)
                    moves = {pair: ("tick", word) for pair in before if worker in pair}
                    # Another task works, or it is a bell: as by a bell if one of the two ran, and otherwise nothing.
                    moves.update({pair: ("bell",) for pair in before if worker not in pair and (
                        word == "bell" or runner in pair)})
                for pair, stand in self.stands(processor).items():
                    right = stand_after(book, before[pair], moves[pair]) if pair in moves else before[pair]
                    self.assertEqual(stand, right, (pair, before[pair], moves.get(pair)))

    def stands(self, processor):
        """The stands of all pairs of seven tasks, some of which have perhaps not come."""
        found = {}
        for one in range(7):
            for two in [other for other in range(7) if other != one]:
                if max(one, two) < len(processor):
                    found[one, two] = stand_of(processor, one, two)
                else:
                    parts = [processor[task] if task < len(processor) else AWAY for task in (one, two)]
                    found[one, two] = (*parts, None)
        return found

    def test_errors(self):
        processor = Processor(FEED)
        processor.come(0)
        processor.come(1)
        for value in (*OTHERS, *BOOKS, processor.queues(), Processor):
            with self.assertRaises(InvalidOperation):
                stand_of(value, None, None)
        for value in (*OTHERS, 2, FEED, processor):
            if is_among(value, (0, 1)):
                continue
            for one, two in ((value, 0), (value, value), (1, value), (value, None)):
                with self.assertRaises(InvalidNumber) as caught:
                    stand_of(processor, one, two)
                self.assertIs(caught.exception.number, value)
        for task in (0, 1):
            with self.assertRaises(InvalidOperation):
                stand_of(processor, task, task)
        with self.assertRaises(InvalidNumber):
            stand_of(Processor(FEED), 0, 0)


class Loads(unittest.TestCase):
    def test_by_hand(self):
        for moves, load in (
                ((("bell",),), (((), "bell"),)), ((("tick", "on"),), (((), "on"),)),
                ((("come", 0, 1), ("tick", "on")), (((("come", 1),), "on"),)),
                # Tasks are numbered as they come.
                ((("come", 1, 2), ("tick", "sleep"), ("wake", 1), ("come", 0, 0), ("tick", "sleep"), ("wake", 0),
                  ("wake", 1), ("bell",)),
                 (((("come", 2),), "sleep"), ((("wake", 0), ("come", 0)), "sleep"), ((("wake", 1), ("wake", 0)), "bell"))),
                ((("come", 0, 0), ("tick", "sleep"), ("wake", 0), ("come", 1, 1), ("wake", 1), ("tick", "end")),
                 (((("come", 0),), "sleep"), ((("wake", 0), ("come", 1), ("wake", 1)), "end"))),
                # Possible or not: nobody is asleep, and there is no such rank.
                ((("come", 0, FORTY), ("wake", 0), ("wake", 0), ("bell",)),
                 (((("come", FORTY), ("wake", 0), ("wake", 0)), "bell"),))):
            self.assertEqual(load_of(moves), load)
            self.assertTrue(is_load(load_of(moves)))

    def test_as_moves_do(self):
        # The chart of the load tells who works at each stand on the way.
        source = random.Random("loads of moves")
        for _ in range(150):
            book = some_book(source)
            stand, moves, workers, come = FIRST, [], [], []
            for _ in range(source.randint(1, 25)):
                move = source.choice(moves_at(book, stand))
                moves.append(move)
                come += [move[1]] if move[0] == "come" else []
                if move[0] in ("tick", "bell"):
                    workers.append("bell" if move == ("bell",) else worker_at(book, stand))
                stand = stand_after(book, stand, move)
            moves.append(("bell",))
            load = load_of(tuple(moves))
            numbers = [entry if entry in (None, "bell") else come[entry] for entry in chart(book, load)]
            self.assertEqual(numbers, [*workers, "bell"])

    def test_no_moves(self):
        for value in (*OTHERS, FEED, [("bell",)], ("bell",), (), (("come", 0, 0),), (("bell",), ("come", 0, 0)),
                      (("come", 0, 0), ("tick", "sleep"), ("wake", 0))):
            with self.assertRaises(InvalidOperation):
                load_of(value)
        for move in NO_MOVES:
            for moves in ((move,), (move, ("bell",)), (("come", 0, 0), move, ("bell",)), (("bell",), move)):
                with self.assertRaises(InvalidOperation):
                    load_of(moves)

    def test_orders_that_no_load_has(self):
        for moves in ((("wake", 0),), (("wake", 1), ("come", 1, 0)), (("come", 0, 0), ("wake", 1)),
                      (("come", 0, 0), ("come", 0, 0)), (("come", 1, 0), ("tick", "end"), ("come", 1, 1))):
            with self.assertRaises(InvalidOperation):
                load_of((*moves, ("tick", "on")))

    def test_limits(self):
        self.assertEqual(len(load_of((("bell",),) * 400)), 400)
        with self.assertRaises(InvalidLoad):
            load_of((("bell",),) * 401)
        twenty = (("come", 0, 0), *[("wake", 0)] * 19)
        self.assertEqual(len(load_of((*twenty, ("bell",)))[0][0]), 20)
        self.assertEqual(len(load_of((*twenty, ("bell",), *[("wake", 0)] * 20, ("bell",)))), 2)
        with self.assertRaises(InvalidLoad):
            load_of((*twenty, ("wake", 0), ("bell",)))
        # What is no row of moves comes first.
        with self.assertRaises(InvalidOperation):
            load_of((("bell",),) * 401 + (("come", 0, 0),))


if __name__ == "__main__":
    unittest.main()
