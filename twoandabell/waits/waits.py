"""Loads in which a task waits as long as it can among some others."""

from twoandabell.base.words import is_between, is_number, is_row
from twoandabell.book.alone import READY
from twoandabell.book.states import way_to
from twoandabell.errors import InvalidNumber, InvalidOperation, Stopped
from twoandabell.run.loads import is_load, many_comers
from twoandabell.run.processors import Processor
from twoandabell.waits.doors import Door
from twoandabell.waits.lengths import length_among, line_of, waits_in
from twoandabell.waits.sides import END, OUT, WAKE, WORK, Sides

MOST_OTHERS = 4
MOST_LEAST = 40


def wait_load(book, level, place, others, *, least=None):
    """A pair of a load and a task, whose last wait in it is as long as the bound, or without one at least so long."""
    door = Door(book, level, place)
    line = line_of(door)
    _check_numbers(book, line, others, least)
    lives = _lives(door, line, others, least)
    processor = Processor(book)
    sleeper = None if place == "back" else _brought(processor, _sleeping_posture(book, door))
    tasks = _all_brought(processor, door.alone, lives)
    if sleeper is None:
        task = processor.come(book.ranks.index(level))
    else:
        task = sleeper
        processor.wake_up(task)
    for number, (_, steps) in zip(tasks, lives):
        _live(processor, number, steps)
    processor.tick("end")
    _let_others_come(processor, others + 1 - len(processor))
    return processor.done, task


def is_wait_load(book, level, place, others, value, *, least=None):
    """Whether the value is such a pair."""
    door = Door(book, level, place)
    line = line_of(door)
    _check_numbers(book, line, others, least)
    if not is_row(value, 2) or not is_load(value[0]) or not is_number(value[1]):
        return False
    load, task = value
    if many_comers(load) != others + 1:
        return False
    try:
        waits = waits_in(book, load)
    except Stopped:
        return False
    own = [wait for wait in waits if wait[1] == task]
    if not own or own[-1][2:4] != (level, place) or not own[-1][5]:
        return False
    length = own[-1][4]
    return length == length_among(line, others) if least is None else length >= least


def _check_numbers(book, line, others, least):
    """Raise an error unless a load can be asked for with these numbers, at a door with this line or without one."""
    if not is_between(others, 0, MOST_OTHERS):
        raise InvalidNumber(others)
    if least is not None and not is_between(least, 1, MOST_LEAST):
        raise InvalidNumber(least)
    if not book.is_open:
        raise InvalidOperation("there is a level without a rank")
    if (least is None) != (line is not None or others == 0):
        raise InvalidOperation("`least` is for waits without a bound among others, and only for them")


def _lives(door, line, others, least):
    """The lives of the other tasks while one waits, one after another, as pairs of a first side stand and of steps.

    Where a task is ready ahead at first, its slice can as well be new, for this gives it at least as much work; and at
    a better level it can as well come a little later.
    """
    if others == 0:
        return []
    sides = Sides(door.alone, door.level)
    fresh = [number for number in door.firsts if number in door.alone.comers and (number - READY) >> 2 == door.level]
    firsts = [OUT, *fresh, *door.asleep]
    most = sides.most_of(firsts)
    if line is None:
        return [_long_life(sides, firsts if most is None else door.runners, least)]
    lives = [sides.longest_life(firsts)] * others
    if line[1] > 0:
        # Who runs at first works ahead of all others.
        sides.most_of(door.runners)
        lives = [sides.longest_life(door.runners), *lives[1:]]
    return lives


def _long_life(sides, firsts, least):
    """A life with at least so much work, behind which the task is not ahead of the one that waits."""
    first, steps, ring = sides.endless_life(firsts)
    while len([step for step in steps if step in WORK]) < least:
        steps = (*steps, *ring)
    if sides.behind(first, steps) >= READY:
        steps = (*steps, END)
    return first, steps


def _sleeping_posture(book, door):
    """A posture of a task that can wake by a door, with as short a way to it as any."""
    found = [door.alone.part(number) for number in door.asleep
             if book.levels[number >> 2].wake[:2] == (door.level, door.place)]
    _, nearest = min([(len(way_to(book, posture)[1]), posture) for posture in found])
    return nearest


def _all_brought(processor, alone, lives):
    """The list of the tasks with these lives, each brought to its first side stand, `None` for one that is out.

    One that runs is brought there when all others are asleep; those that are to be ready come behind it.
    """
    tasks = [None for _ in lives]
    asleep = [index for index, (first, _) in enumerate(lives) if first < OUT]
    awake = [index for index, (first, _) in enumerate(lives) if first > OUT]
    for index in [*asleep, *awake]:
        first, _ = lives[index]
        tasks[index] = _brought(processor, alone.part(first))
    return tasks


def _brought(processor, posture):
    """The number of a task that is now brought to a posture, alone; one that is to be ready only comes."""
    rank, moves = way_to(processor.book, posture)
    task = processor.come(rank)
    _live(processor, task, [("bell",) if move == "lost" else (move,) for move in moves])
    return task


def _live(processor, task, steps):
    """Let a task make some steps, the first of which can be that it comes."""
    for step in steps:
        if step[0] == "come":
            task = processor.come(step[1])
        elif step == WAKE:
            processor.wake_up(task)
        else:
            processor.tick(step[0])


def _let_others_come(processor, many):
    """Let so many further tasks come, now that the wait is over."""
    for _ in range(many):
        processor.come(0)
    if many > 0:
        processor.tick("on")
