"""What one other task can do beside a task that waits."""

from twoandabell.base.words import is_between, is_number, is_row
from twoandabell.book.alone import number_of
from twoandabell.book.checks import check_book
from twoandabell.book.states import is_posture
from twoandabell.errors import InvalidNumber, InvalidOperation, InvalidStand
from twoandabell.waits.doors import Door, doors_among
from twoandabell.waits.sides import BEHIND, BEHIND_STAND, BELL, OUT, OUT_STAND, WAKE, WORK, Sides


def doors(book):
    """The ascending tuple of the pairs of a level and a place by which a task can come or wake."""
    check_book(book)
    return doors_among(book, book.told_alone().reached())


def first_stands(book, level, place, *, runs=False):
    """The ascending tuple of what the other task can be at when a task enters by a door."""
    sides, firsts = _sides_and_firsts(book, level, place, runs)
    return tuple([sides.stand(number) for number in firsts])


def steps_from(book, level, stand):
    """A dict from the steps of the other task beside one that waits at a level, to the side stands behind them."""
    check_book(book)
    if not is_between(level, 0, len(book) - 1):
        raise InvalidNumber(level)
    if not _is_side_stand(book, level, stand):
        raise InvalidStand("this has not the form of a side stand")
    sides = Sides(book.told_alone(), level)
    return {step: sides.stand(behind) for step, behind in sides.steps(_number_of(stand))}


def most_work(book, level, place, *, runs=False):
    """The most work of a life, or `None` if it has no end."""
    sides, firsts = _sides_and_firsts(book, level, place, runs)
    return sides.most_of(firsts)


def life_paper(book, level, place, *, runs=False):
    """A paper that tells the most work of a life, or that it has no end; `None` if there is no first side stand."""
    sides, firsts = _sides_and_firsts(book, level, place, runs)
    if not firsts:
        return None
    if sides.most_of(firsts) is None:
        first, steps, ring = sides.endless_life(firsts)
        return ("endless", (sides.stand(first), steps), ring)
    first, steps = sides.longest_life(firsts)
    table = [(sides.stand(number), sides.most(number)) for number in sides.reached(firsts)]
    return ("most", (sides.stand(first), steps), tuple(table))


def is_life_paper(book, level, place, value, *, runs=False):
    """Whether the value is such a paper."""
    sides, firsts = _sides_and_firsts(book, level, place, runs)
    if not firsts:
        return value is None
    if not is_row(value, 3):
        return False
    word, life, rest = value
    last = _last_of_life(book, level, sides, firsts, life)
    if last is None:
        return False
    if word == "most":
        most = _read_table(book, level, rest)
        return most is not None and _is_bound(sides, most) and _is_below(most, firsts, _work_of(life[1]))
    return word == "endless" and _after_steps(sides, last, rest) == last and _work_of(rest) > 0


def _sides_and_firsts(book, level, place, runs):
    """The steps beside a task that enters by a door, and the first side stands there; raise an error if it is none."""
    door = Door(book, level, place)
    if not isinstance(runs, bool):
        raise InvalidOperation("`runs` is no boolean")
    return door.sides, door.runners if runs else door.firsts


def _is_side_stand(book, level, value):
    """Whether the value has the form of a side stand beside a task that waits at this level."""
    if value in (OUT_STAND, BEHIND_STAND):
        return True
    return is_posture(book, value) and (value[0] != "ready" or value[1] <= level)


def _number_of(stand):
    """The number of a side stand."""
    if stand == BEHIND_STAND:
        return BEHIND
    return OUT if stand == OUT_STAND else number_of(stand)


def _work_of(steps):
    """The number of the steps that are work."""
    return len([step for step in steps if step in WORK])


def _is_step(value):
    """Whether the value has the form of a step."""
    if is_row(value, 2):
        return value[0] == "come" and is_number(value[1])
    return value in (BELL, WAKE) or value in WORK


def _after_steps(sides, number, steps):
    """The side stand behind some steps, or `None` if the value is no tuple of steps that are possible."""
    if not isinstance(steps, tuple):
        return None
    for step in steps:
        behind = [near for own, near in sides.steps(number) if own == step]
        if not _is_step(step) or not behind:
            return None
        number = behind[0]
    return number


def _last_of_life(book, level, sides, firsts, value):
    """The side stand at which a life ends, or `None` if the value is no life."""
    if not is_row(value, 2) or not _is_side_stand(book, level, value[0]) or _number_of(value[0]) not in firsts:
        return None
    return _after_steps(sides, _number_of(value[0]), value[1])


def _read_table(book, level, value):
    """A dict from side stands to numbers, of an ascending tuple of pairs of them; `None` if the value is none."""
    if not isinstance(value, tuple) or not all([_is_table_pair(book, level, pair) for pair in value]):
        return None
    numbers = [_number_of(stand) for stand, _ in value]
    if numbers != sorted(set(numbers)):
        return None
    return {number: most for number, (_, most) in zip(numbers, value)}


def _is_table_pair(book, level, value):
    return is_row(value, 2) and _is_side_stand(book, level, value[0]) and is_number(value[1])


def _is_bound(sides, most):
    """Whether the numbers of side stands are bounds for the work from them on, each followed by its steps."""
    for number, bound in most.items():
        for step, behind in sides.steps(number):
            if behind not in most or most[behind] + (1 if step in WORK else 0) > bound:
                return False
    return True


def _is_below(most, firsts, work):
    """Whether a table has all first side stands, with numbers that are at most this work."""
    return all([number in most and most[number] <= work for number in firsts])
