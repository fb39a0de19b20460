"""How long tasks wait: in a load, and at most among any number of others."""

from twoandabell.base.words import is_number
from twoandabell.book.checks import check_book
from twoandabell.errors import InvalidNumber, Stopped
from twoandabell.run.loads import check_load
from twoandabell.run.machines import Machine
from twoandabell.waits.doors import Door


def waits_in(book, load):
    """The tuple of (tick, task, level, place, length, is_over) for all waits of a load, as they begin."""
    check_book(book)
    check_load(load)
    machine = Machine(book)
    waits = []
    # The indices of the waits that are not over, by their tasks, and the number of ticks in which tasks worked.
    waiting = {}
    works = 0
    for tick, (comings, word) in enumerate(load):
        for coming in comings:
            if not machine.is_possible(coming):
                raise Stopped(tick)
            task, level, place = _entering(book, machine, coming)
            machine.let_in(coming)
            waiting[task] = len(waits)
            waits.append((tick, task, level, place, works, False))
        worker = machine.do_tick(word)
        if worker in waiting:
            index = waiting.pop(worker)
            waits[index] = _ended(waits[index], works, True)
        if is_number(worker):
            works += 1
    return tuple([wait if wait[5] else _ended(wait, works, False) for wait in waits])


def wait_line(book, level, place):
    """The pair of the slope and the start of the longest waits at a door, or `None` if there is no bound."""
    return line_of(Door(book, level, place))


def longest_wait(book, level, place, others):
    """The length of the longest wait at a door among so many others, or `None` if there is no bound."""
    line = wait_line(book, level, place)
    if not is_number(others):
        raise InvalidNumber(others)
    return length_among(line, others)


def line_of(door):
    """The pair of the slope and the start of the longest waits at a door, or `None` if there is no bound."""
    most, most_running = door.bounds()
    if most is None or most_running is None:
        return None
    return (most, max(0, most_running - most))


def length_among(line, others):
    """The length of the longest wait with this slope and start among so many others; a line can be `None`."""
    if others == 0:
        return 0
    return None if line is None else others * line[0] + line[1]


def _entering(book, machine, coming):
    """The task of a coming, and the level and the place by which it enters."""
    word, number = coming
    if word == "come":
        return machine.many_tasks(), book.ranks[number], "back"
    level, place, _ = book.levels[machine.level_of(number)].wake
    return number, level, place


def _ended(wait, works, is_over):
    """A wait that began behind so many ticks of work as its length says, now that there were so many in all."""
    return (*wait[:4], works - wait[4], is_over)
