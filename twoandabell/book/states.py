"""Own states of tasks, and the postures of a task alone."""

from twoandabell.base.words import is_between, is_row
from twoandabell.book.alone import MODES, number_of
from twoandabell.book.checks import check_book
from twoandabell.errors import InvalidNumber, InvalidOperation, InvalidState, UnknownName

QUEUE_WORDS = ("used", "wake", "way", "lost")


def is_state(book, value):
    """Whether the value is an own state of the book, of a task in any mode."""
    check_book(book)
    if not is_row(value, 2) or not is_between(value[0], 0, len(book) - 1):
        return False
    ticks = book.levels[value[0]].ticks
    return value[1] is None if ticks is None else is_between(value[1], 0, ticks)


def is_posture(book, value):
    """Whether the value has the form of a posture; only a task that is asleep can have nothing left."""
    if not is_row(value, 3) or value[0] not in MODES or not is_state(book, value[1:]):
        return False
    return value[0] == "asleep" or value[2] != 0


def fresh(book, rank):
    """The own state of a comer of this rank."""
    check_book(book)
    if not is_between(rank, 0, len(book.ranks) - 1):
        raise InvalidNumber(rank)
    level = book.ranks[rank]
    return (level, book.levels[level].ticks)


def worked(book, state):
    """The own state behind a tick of work."""
    _check_state(book, state)
    if state[1] == 0:
        raise InvalidState("nothing is left to work")
    level, left = state
    return (level, None if left is None else left - 1)


def moved(book, word, state):
    """The pair of the own state and the place with which a task enters by the entry with this word."""
    check_book(book)
    if word not in QUEUE_WORDS:
        raise UnknownName(word)
    _check_state(book, state)
    alone = book.told_alone()
    number, place = alone.entered(word, number_of(("asleep", *state)))
    _, level, left = alone.part(number)
    return (level, left), place


def moves_alone(book, posture):
    """The ascending tuple of the moves that are possible."""
    _check_posture(book, posture)
    return _possible_moves(book, posture)


def posture_after(book, posture, move):
    """The next posture."""
    _check_posture(book, posture)
    if move not in _possible_moves(book, posture):
        raise InvalidOperation("this move is not possible")
    alone = book.told_alone()
    number, _ = alone.after(number_of(posture), move)
    return alone.part(number)


def postures(book):
    """The ascending tuple of all postures to which moves lead from those of comers."""
    check_book(book)
    alone = book.told_alone()
    return alone.postures(alone.reached())


def way_to(book, posture):
    """A pair of a rank and the moves, as few as possible, that lead from its comer to the posture."""
    _check_posture(book, posture)
    alone = book.told_alone()
    end = number_of(posture)
    if end not in alone.reached():
        raise InvalidState("no moves lead to this posture")
    ways = {}
    for rank, comer in enumerate(alone.comers):
        ways.setdefault(comer, (rank, ()))
    layer = list(ways)
    while end not in ways:
        layer = _next_layer(book, layer, ways)
    return ways[end]


def _check_state(book, state):
    if not is_state(book, state):
        raise InvalidState("this is no own state of the book")


def _check_posture(book, posture):
    """Raise an error unless the book is one, and the posture has the form of one."""
    check_book(book)
    if not is_posture(book, posture):
        raise InvalidState("this is no posture by the book")


def _possible_moves(book, posture):
    """The ascending tuple of the moves of a task alone that are possible."""
    mode, level, _ = posture
    if mode == "asleep":
        return ("wake",)
    if mode == "runs" and book.levels[level].takes >= 1:
        return ("lost", "on", "sleep", "way")
    return ("on", "sleep", "way")


def _next_layer(book, layer, ways):
    """Tell the ways of the postures one move behind those of a layer that had none, and return these, by numbers."""
    alone = book.told_alone()
    found = []
    for number in layer:
        rank, moves = ways[number]
        for move in _possible_moves(book, alone.part(number)):
            behind, _ = alone.after(number, move)
            if behind not in ways:
                ways[behind] = (rank, (*moves, move))
                found.append(behind)
    return found
