"""Stands of two tasks, and how they change."""

from twoandabell.base.words import is_between, is_number, is_row
from twoandabell.book.checks import check_book
from twoandabell.book.states import is_posture
from twoandabell.errors import InvalidLoad, InvalidNumber, InvalidOperation, InvalidStand
from twoandabell.pair.graphs import BELL, TICKS, Graph, number_of_stand, worker_of
from twoandabell.run.loads import is_load
from twoandabell.run.processors import Processor

FIRST = (("away",), ("away",), None)
AWAY = ("away",)
ENDED = ("ended",)


def is_stand(book, value):
    """Whether the value has the form of a stand, reached or not."""
    check_book(book)
    if not is_row(value, 3) or not _is_part(book, value[0]) or not _is_part(book, value[1]):
        return False
    one, two, ahead = value
    if one[0] == "runs" and two[0] == "runs":
        return False
    if one[0] == "ready" and two[0] == "ready" and one[1] == two[1]:
        return is_between(ahead, 0, 1)
    return ahead is None


def moves_at(book, stand):
    """The ascending tuple of the moves that are possible."""
    _check_stand(book, stand)
    return tuple(sorted(Graph(book).moves_at(number_of_stand(stand))))


def worker_at(book, stand):
    """The task that would work in a tick now, or `None`."""
    _check_stand(book, stand)
    return worker_of([level.takes for level in book], number_of_stand(stand))


def stand_after(book, stand, move):
    """The stand behind a move."""
    _check_stand(book, stand)
    graph = Graph(book)
    number = number_of_stand(stand)
    if not _is_move(move) or move not in graph.moves_at(number):
        raise InvalidOperation("this move is not possible")
    return graph.stand(graph.stand_behind(number, move))


def exchanged(book, stand):
    """The stand with the two tasks exchanged."""
    _check_stand(book, stand)
    one, two, ahead = stand
    return (two, one, None if ahead is None else 1 - ahead)


def stand_of(processor, one, two):
    """The stand of two tasks of a processor."""
    if not isinstance(processor, Processor):
        raise InvalidOperation("this is no processor")
    for task in (one, two):
        if not is_between(task, 0, len(processor) - 1):
            raise InvalidNumber(task)
    if one == two:
        raise InvalidOperation("these are one task")
    parts = (processor[one], processor[two])
    ahead = None
    if parts[0][0] == "ready" and parts[1][0] == "ready" and parts[0][1] == parts[1][1]:
        ahead = 0 if processor.queues().is_ahead(one, two) else 1
    return (*parts, ahead)


def load_of(moves):
    """The load that does some moves from the first stand on, the last of which is a tick or a bell."""
    if not _are_moves(moves):
        raise InvalidOperation("these are no moves that end with a tick or a bell")
    numbers = {}
    ticks = []
    comings = []
    for move in moves:
        if move[0] == "come":
            numbers[move[1]] = len(numbers)
            comings.append(("come", move[2]))
        elif move[0] == "wake":
            comings.append(("wake", numbers[move[1]]))
        else:
            ticks.append((tuple(comings), move[-1]))
            comings = []
    load = tuple(ticks)
    if not is_load(load):
        raise InvalidLoad("this would be more than a load can hold")
    return load


def _is_part(book, value):
    """Whether the value has the form of what a stand tells of one task."""
    return value in (AWAY, ENDED) or is_posture(book, value)


def _check_stand(book, stand):
    if not is_stand(book, stand):
        raise InvalidStand("this has not the form of a stand")


def _is_move(value):
    """Whether the value has the form of a move, possible or not."""
    if value == BELL or value in TICKS:
        return True
    if is_row(value, 3) and value[0] == "come":
        return is_between(value[1], 0, 1) and is_number(value[2])
    return is_row(value, 2) and value[0] == "wake" and is_between(value[1], 0, 1)


def _are_moves(value):
    """Whether the value is a tuple of moves by their form, in an order that some load can have."""
    if not isinstance(value, tuple) or not all([_is_move(move) for move in value]):
        return False
    if not value or value[-1][0] not in ("tick", "bell"):
        return False
    come = [False, False]
    for move in value:
        if move[0] == "come":
            if come[move[1]]:
                return False
            come[move[1]] = True
        elif move[0] == "wake" and not come[move[1]]:
            return False
    return True
