"""What one other task can do beside a task that waits."""

from twoandabell.base.words import is_between, is_number, is_row
from twoandabell.book.checks import check_book
from twoandabell.book.moves import after_move, comer_state
from twoandabell.book.states import is_posture, postures
from twoandabell.errors import InvalidNumber, InvalidOperation, InvalidStand

OUT = ("out",)
BEHIND = ("behind",)
# Ascending; these are the steps with which the other task works.
WORK = (("end",), ("on",), ("sleep",), ("way",))
BELL = ("bell",)
WAKE = ("wake",)


def doors(book):
    """The ascending tuple of the pairs of a level and a place by which a task can come or wake."""
    check_book(book)
    coming = [(level, "back") for level in book.ranks]
    waking = [book.levels[level].wake[:2] for mode, level, _ in postures(book) if mode == "asleep"]
    return tuple(sorted(set(coming + waking)))


def first_stands(book, level, place, *, runs=False):
    """The ascending tuple of what the other task can be at when a task enters by a door."""
    _check_door(book, level, place, runs)
    every = postures(book)
    if runs:
        return tuple([one for one in every if one[0] == "runs" and book.levels[one[1]].takes <= level])
    ahead = level if place == "back" else level - 1
    found = [one for one in every if one[0] == "asleep" or (one[0] == "ready" and one[1] <= ahead)]
    return tuple(sorted([OUT, *found]))


def steps_from(book, level, stand):
    """A dict from the steps of the other task beside one that waits at a level, to the side stands behind them."""
    check_book(book)
    if not is_between(level, 0, len(book) - 1):
        raise InvalidNumber(level)
    if not _is_side_stand(book, level, stand):
        raise InvalidStand("this has not the form of a side stand")
    return _steps(book, level, stand)


def most_work(book, level, place, *, runs=False):
    """The most work of a life, or `None` if it has no end."""
    firsts = first_stands(book, level, place, runs=runs)
    most = _most_of_all(_all_steps(book, level, firsts))
    if most is None:
        return None
    return max([most[stand] for stand in firsts], default=0)


def life_paper(book, level, place, *, runs=False):
    """A paper that tells the most work of a life, or that it has no end; `None` if there is no first side stand."""
    firsts = first_stands(book, level, place, runs=runs)
    if not firsts:
        return None
    steps = _all_steps(book, level, firsts)
    most = _most_of_all(steps)
    if most is None:
        return ("endless", *_endless_life(steps, firsts))
    return ("most", _longest_life(steps, most, firsts), tuple(sorted(list(most.items()))))


def is_life_paper(book, level, place, value, *, runs=False):
    """Whether the value is such a paper."""
    firsts = first_stands(book, level, place, runs=runs)
    if not firsts:
        return value is None
    if not is_row(value, 3):
        return False
    word, life, rest = value
    last = _last_of_life(book, level, firsts, life)
    if last is None:
        return False
    if word == "most":
        return _is_bound(book, level, rest) and _is_below(rest, firsts, _work_of(life[1]))
    if word != "endless" or _after_steps(book, level, last, rest) != last:
        return False
    return _work_of(rest) > 0


def _check_door(book, level, place, runs):
    """Raise an error unless the values are a book, one of its doors, and a boolean."""
    # A boolean would be taken for a number.
    if (level, place) not in doors(book) or not is_number(level):
        raise InvalidOperation("this is no door")
    if not isinstance(runs, bool):
        raise InvalidOperation("`runs` is no boolean")


def _is_side_stand(book, level, value):
    """Whether the value has the form of a side stand beside a task that waits at this level."""
    if value in (OUT, BEHIND):
        return True
    return is_posture(book, value) and (value[0] != "ready" or value[1] <= level)


def _steps(book, level, stand):
    """The dict of the steps from a side stand, ascending."""
    if stand == BEHIND:
        return {}
    if stand == OUT:
        comers = [("ready", *comer_state(book, rank)) for rank in range(len(book.ranks))]
        return {("come", rank): _side(level, comer, "back") for rank, comer in enumerate(comers)}
    if stand[0] == "asleep":
        return {WAKE: _moved(book, level, stand, "wake")}
    found = {}
    if stand[0] == "runs" and book.levels[stand[1]].takes >= 1:
        found[BELL] = _moved(book, level, stand, "lost")
    for step in WORK:
        found[step] = BEHIND if step == ("end",) else _moved(book, level, stand, step[0])
    return found


def _moved(book, level, posture, move):
    """The side stand behind a move of the other task, beside a task that waits at a level."""
    behind, place = after_move(book, posture, move)
    return _side(level, behind, place)


def _side(level, posture, place):
    """The side stand of a task at a posture, which by this has entered a queue at a place, or not."""
    if posture[0] != "ready" or posture[1] < level or (posture[1] == level and place == "front"):
        return posture
    return BEHIND


def _all_steps(book, level, firsts):
    """A dict from each side stand that is reached from some first ones to the steps from it."""
    steps = {}
    waiting = list(firsts)
    while waiting:
        stand = waiting.pop()
        if stand not in steps:
            steps[stand] = _steps(book, level, stand)
            waiting.extend(list(steps[stand].values()))
    return steps


def _most_of_all(steps):
    """A dict from each side stand to the most work from it on, or `None` if this has no end anywhere."""
    most = {stand: 0 for stand in steps}
    # Without a ring no row of steps is as long as there are side stands; and there is work in every ring.
    for _ in steps:
        longer = {stand: _most_behind(behind, most) for stand, behind in steps.items()}
        if longer == most:
            return most
        most = longer
    return None if steps else {}


def _most_behind(behind, most):
    """The most work from a side stand on, told from those behind its steps."""
    return max([_work_of((step,)) + most[stand] for step, stand in behind.items()], default=0)


def _work_of(steps):
    """The number of the steps that are work."""
    return len([step for step in steps if step in WORK])


def _longest_life(steps, most, firsts):
    """A life with the most work."""
    first = max(firsts, key=lambda stand: most[stand])
    at = first
    taken = []
    while most[at] > 0:
        step = [one for one, behind in steps[at].items() if _work_of((one,)) + most[behind] == most[at]][0]
        taken.append(step)
        at = steps[at][step]
    return (first, tuple(taken))


def _endless_life(steps, firsts):
    """The pair of a life and of steps that lead from its last side stand back to it; there are such steps."""
    lives = _ways(steps, [((first, ()), first) for first in firsts])
    found = []
    for stand in lives:
        near = [((stand, (step,)), behind) for step, behind in steps[stand].items()]
        rings = _ways(steps, near)
        if stand in rings:
            found.append((lives[stand], rings[stand][1]))
    return found[0]


def _ways(steps, starts):
    """A dict from each side stand that is reached from some lives on to such a life; a start is a life and its end."""
    lives = {}
    waiting = list(starts)
    while waiting:
        (first, taken), at = waiting.pop(0)
        if at not in lives:
            lives[at] = (first, taken)
            waiting.extend([((first, (*taken, step)), behind) for step, behind in steps[at].items()])
    return lives


def _is_step(value):
    """Whether the value has the form of a step."""
    if is_row(value, 2):
        return value[0] == "come" and is_number(value[1])
    return value in (BELL, WAKE) or value in WORK


def _after_steps(book, level, stand, steps):
    """The side stand behind some steps, or `None` if the value is no tuple of steps that are possible."""
    if not isinstance(steps, tuple):
        return None
    for step in steps:
        behind = _steps(book, level, stand)
        if not _is_step(step) or step not in behind:
            return None
        stand = behind[step]
    return stand


def _last_of_life(book, level, firsts, value):
    """The side stand at which a life ends, or `None` if the value is no life."""
    if not is_row(value, 2) or not _is_side_stand(book, level, value[0]) or value[0] not in firsts:
        return None
    return _after_steps(book, level, value[0], value[1])


def _is_bound(book, level, value):
    """Whether the value is an ascending tuple of pairs of a side stand and a number, each followed by its steps."""
    if not isinstance(value, tuple) or not all([_is_bound_pair(book, level, pair) for pair in value]):
        return False
    if not all([value[index][0] < value[index + 1][0] for index in range(len(value) - 1)]):
        return False
    most = {stand: number for stand, number in value}
    for stand, number in value:
        for step, behind in _steps(book, level, stand).items():
            if behind not in most or most[behind] + _work_of((step,)) > number:
                return False
    return True


def _is_bound_pair(book, level, value):
    return is_row(value, 2) and _is_side_stand(book, level, value[0]) and is_number(value[1])


def _is_below(table, firsts, work):
    """Whether a table has all first side stands, with numbers that are at most this work."""
    most = {stand: number for stand, number in table}
    return all([stand in most and most[stand] <= work for stand in firsts])
