"""Loads at whose last tick two books part, cut to the two tasks that matter."""

from twoandabell.errors import InvalidLoad
from twoandabell.run.loads import is_parting
from twoandabell.run.machines import Machine


def two_of(book, other, load):
    """The task that works in the last tick by one book, and the one that works there by the other."""
    _check_parting(book, other, load)
    return _last_two(_told(book, load), _told(other, load))


def cut(book, other, load):
    """The load of the two alone, at whose last tick the books part as well."""
    _check_parting(book, other, load)
    told, told_too = _told(book, load), _told(other, load)
    two = _last_two(told, told_too)
    kept = _kept(told, told_too)
    ticks = []
    # The comings of the two that go to the next tick that stays.
    waiting = []
    for index, comings in enumerate(_comings_of(load, two)):
        waiting.extend(comings)
        if index in kept:
            # A tick that stays though neither of the two works in it is a bell, or takes one of them away.
            word = load[index][1] if told[index][0] in two else "bell"
            ticks.append((tuple(waiting), word))
            waiting = []
    return tuple(ticks)


def kept_ticks(book, other, load):
    """The ascending tuple of the indices of the ticks from which those of the cut come."""
    _check_parting(book, other, load)
    return tuple(_kept(_told(book, load), _told(other, load)))


def _check_parting(book, other, load):
    if not is_parting(book, other, load):
        raise InvalidLoad("the books do not part at the last tick of this load")


def _told(book, load):
    """For each tick of a load the pair of what the chart tells of it, and of the task that is taken away, or `None`."""
    machine = Machine(book)
    found = []
    for comings, word in load:
        for coming in comings:
            machine.let_in(coming)
        lost = machine.lost_by(word)
        found.append((machine.do_tick(word), lost))
    return found


def _last_two(told, told_too):
    return (told[-1][0], told_too[-1][0])


def _kept(told, told_too):
    """The ascending list of the indices of the ticks that stay."""
    two = _last_two(told, told_too)
    found = []
    for index, (worker, lost) in enumerate(told):
        # The last tick stays, for one of the two works in it.
        if worker == "bell" or worker in two or lost in two or told_too[index][1] in two:
            found.append(index)
    return found


def _comings_of(load, two):
    """For each tick of a load the list of the comings of two tasks, which are numbered as they come."""
    numbers = {}
    come = 0
    found = []
    for comings, _ in load:
        row = []
        for word, number in comings:
            if word == "wake":
                if number in numbers:
                    row.append(("wake", numbers[number]))
                continue
            if come in two:
                numbers[come] = len(numbers)
                row.append(("come", number))
            come += 1
        found.append(row)
    return found
