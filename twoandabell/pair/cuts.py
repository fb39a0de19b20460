"""Loads at whose last tick two books part, cut to the two tasks that matter."""

from twoandabell.book.checks import check_books
from twoandabell.errors import InvalidLoad
from twoandabell.run.loads import is_load
from twoandabell.run.machines import Machine


def two_of(book, other, load):
    """The task that works in the last tick by one book, and the one that works there by the other."""
    return _last_two(_told(book, other, load))


def cut(book, other, load):
    """The load of the two alone, at whose last tick the books part as well."""
    told = _told(book, other, load)
    two = _last_two(told)
    kept = _kept(told)
    ticks = []
    # The comings of the two that go to the next tick that stays.
    waiting = []
    for index, comings in enumerate(_comings_of(load, two)):
        waiting.extend(comings)
        if index in kept:
            # A tick that stays though neither of the two works in it is a bell, or takes one of them away.
            word = load[index][1] if told[index][0] in two else "bell"
            ticks.append((tuple(waiting), word))
            waiting = []
    return tuple(ticks)


def kept_ticks(book, other, load):
    """The ascending tuple of the indices of the ticks from which those of the cut come."""
    return tuple(_kept(_told(book, other, load)))


def _told(book, other, load):
    """For each tick of a load the pairs of what the charts tell of it, and of the tasks that are taken away in it.

    The four are in one row. Raise an error unless the books part just at the last tick.
    """
    check_books(book, other)
    found = []
    if is_load(load):
        one, two = Machine(book), Machine(other)
        for comings, word in load:
            # As long as the charts are equal the same tasks are asleep, so the same comings are possible.
            if (found and found[-1][0] != found[-1][1]) or not (one.let_all_in(comings) and two.let_all_in(comings)):
                raise InvalidLoad("the books part ahead of this tick, or a coming is not possible")
            runner, other_runner = one.running(), two.running()
            worker, other_worker = one.do_tick(word), two.do_tick(word)
            # In a bell nobody works, so those that run count as taken away; but each bell stays anyway.
            lost = None if runner == worker else runner
            other_lost = None if other_runner == other_worker else other_runner
            found.append((worker, other_worker, lost, other_lost))
    if not found or found[-1][0] == found[-1][1]:
        raise InvalidLoad("the books do not part at the last tick of this load")
    return found


def _last_two(told):
    return told[-1][:2]


def _kept(told):
    """The ascending list of the indices of the ticks that stay."""
    two = _last_two(told)
    found = []
    for index, (worker, _, lost, other_lost) in enumerate(told):
        # The last tick stays, for one of the two works in it.
        if worker == "bell" or worker in two or lost in two or other_lost in two:
            found.append(index)
    return found


def _comings_of(load, two):
    """For each tick of a load the list of the comings of two tasks, which are numbered as they come."""
    numbers = {}
    come = 0
    found = []
    for comings, _ in load:
        row = []
        for word, number in comings:
            if word == "wake":
                if number in numbers:
                    row.append(("wake", numbers[number]))
                continue
            if come in two:
                numbers[come] = len(numbers)
                row.append(("come", number))
            come += 1
        found.append(row)
    return found
