"""Loads of two tasks of two ranks. They have the form of loads, but need not be possible."""

from twoandabell.pair.graphs import number_of_stand
from twoandabell.run.machines import Machine


def works_beside_ready(book, rank, other, load):
    """Whether in the last tick of a load the task of the second rank works while the one of the first is ready."""
    second = _second_task(load, rank, other)
    if second is None:
        return False
    machine = Machine(book)
    worker = None
    for comings, word in load:
        if not machine.let_all_in(comings):
            return False
        worker = machine.do_tick(word)
    # Of two tasks of one rank either can be taken for the second one.
    if worker not in (0, 1) or (rank != other and worker != second):
        return False
    # Who is ready behind the tick was so ahead of it, or has been taken away in it.
    return machine.all_postures()[1 - worker][0] == "ready"


def raced(book, rank, other, load, tick):
    """The pair of the lead of a race and of the number of the stand behind it; `None` if there is no race.

    The race goes from a tick to the end of a load, and the task of the second rank is task 1 of the stand.
    """
    second = _second_task(load, rank, other)
    if second is None:
        return None
    machine = Machine(book)
    gained = 0
    for index, (comings, word) in enumerate(load):
        if not machine.let_all_in(comings) or (index == tick and not _are_both_there(machine)):
            return None
        worker = machine.do_tick(word)
        if index >= tick and worker in (0, 1):
            if word != "on":
                return None
            gained += 1 if worker == second else -1
    return gained, _stand_of_two(machine, second)


def _second_task(load, rank, other):
    """The task of the second rank, if just two tasks come in a load, one of each rank; otherwise `None`."""
    ranks = [number for comings, _ in load for word, number in comings if word == "come"]
    if ranks == [rank, other]:
        return 1
    return 0 if ranks == [other, rank] else None


def _are_both_there(machine):
    """Whether two tasks have come, and each is ready or runs."""
    modes = [posture[0] for posture in machine.all_postures()]
    return len(modes) == 2 and all([mode in ("ready", "runs") for mode in modes])


def _stand_of_two(machine, second):
    """The number of the stand of two tasks, the second one of which is this one."""
    postures, order = machine.all_postures(), machine.order()
    first = 1 - second
    ahead = None
    if len(order) == 2 and postures[0][1] == postures[1][1]:
        ahead = 0 if order[0] == first else 1
    return number_of_stand((postures[first], postures[second], ahead))
