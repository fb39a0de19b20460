"""Loads, their charts and pictures, and where two books part."""

from twoandabell.base.words import NUMBER_LIMIT, TICK_WORDS, is_between
from twoandabell.book.checks import check_book, check_books
from twoandabell.errors import InvalidLoad, InvalidNumber, Stopped
from twoandabell.run.machines import Machine

MAX_LOAD = 400
MAX_COMINGS = 20
MAX_TASKS = 60

COMING_WORDS = ("come", "wake")


def is_load(value):
    """Whether the value has the form of a load, possible for a book or not."""
    if not isinstance(value, tuple) or len(value) > MAX_LOAD:
        return False
    come = 0
    # Loads are long, and most ticks are without comings: so it is looked at here what a tick is.
    for tick in value:
        if not isinstance(tick, tuple) or len(tick) != 2:
            return False
        comings, word = tick
        if word not in TICK_WORDS or not isinstance(comings, tuple):
            return False
        if comings:
            if not _are_comings(comings):
                return False
            come += _many_in(comings)
    return come <= MAX_TASKS


def chart(book, load):
    """The tuple that tells for each tick of a load which task works, `None` if it is idle, and `"bell"` for a bell."""
    check_book(book)
    check_load(load)
    machine = Machine(book)
    told = []
    for comings, word in load:
        if comings and not machine.let_all_in(comings):
            raise Stopped(len(told))
        told.append(machine.do_tick(word))
    return tuple(told)


def pictures(book, load):
    """A generator of what each task that has come is at, behind each tick of a load."""
    check_book(book)
    check_load(load)
    machine = Machine(book)
    for index, tick in enumerate(load):
        _done(machine, index, tick)
        yield machine.all_postures()


def first_parted(book, other, load):
    """The index of the tick of a load at which two books part, or `None`."""
    check_books(book, other)
    check_load(load)
    one, two = Machine(book), Machine(other)
    for index, tick in enumerate(load):
        if _done(one, index, tick) != _done(two, index, tick):
            return index
    return None


def is_parting(book, other, value):
    """Whether the value is a load at whose last tick two books part."""
    check_books(book, other)
    if not is_load(value):
        return False
    try:
        index = first_parted(book, other, value)
    except Stopped:
        return False
    return index == len(value) - 1


def without_task(load, task):
    """The load without the comings of a task; greater numbers of tasks are less by one."""
    check_load(load)
    if not is_between(task, 0, many_comers(load) - 1):
        raise InvalidNumber(task)
    ticks = []
    come = 0
    for comings, word in load:
        ticks.append((_comings_without(comings, task, come), word))
        come += _many_in(comings)
    return tuple(ticks)


def _are_comings(value):
    """Whether a tuple has the form of the comings of a tick."""
    if len(value) > MAX_COMINGS:
        return False
    for coming in value:
        if not isinstance(coming, tuple) or len(coming) != 2:
            return False
        word, number = coming
        if word not in COMING_WORDS or not isinstance(number, int) or number is True or number is False:
            return False
        if not 0 <= number < NUMBER_LIMIT:
            return False
    return True


def many_comers(load):
    """The number of the tasks that come in a load."""
    return sum([_many_in(comings) for comings, _ in load])


def _many_in(comings):
    """The number of the comers among some comings."""
    return len([coming for coming in comings if coming[0] == "come"])


def check_load(load):
    """Raise an error unless the value has the form of a load."""
    if not is_load(load):
        raise InvalidLoad("this has not the form of a load")


def _done(machine, index, tick):
    """Do the tick with this index of a load, and return what the chart tells of it."""
    comings, word = tick
    if comings and not machine.let_all_in(comings):
        raise Stopped(index)
    return machine.do_tick(word)


def _comings_without(comings, task, come):
    """The comings of a tick ahead of which so many tasks have come, without those of this task."""
    kept = []
    for word, number in comings:
        if word == "come":
            if come != task:
                kept.append((word, number))
            come += 1
        elif number != task:
            kept.append((word, number - 1 if number > task else number))
    return tuple(kept)
