"""All stands of two tasks to which moves by a book lead."""

from twoandabell.pair.stands import FIRST
from twoandabell.pair.turns import Turns


class Graph:
    """The stands to which moves by a book lead from the first one, numbered ascending; it never changes.

    Each list has an item for each stand, by its number: `stands` itself, `workers` the task that would work in a tick
    now, `comings` the numbers of the stands behind its comings and wakings, `timed` of those behind its bell and ticks,
    in the order in which `comings_at` and `timed_at` of `turns` tell these moves, and `bells` of that behind its bell.
    """

    def __init__(self, book):
        turns = Turns(book)
        behind = _all_behind(turns)
        self.turns = turns
        self.stands = sorted(list(behind))
        self.numbers = {stand: number for number, stand in enumerate(self.stands)}
        self.workers = [turns.worker_at(stand) for stand in self.stands]
        self.comings = [self._numbered(behind[stand][0]) for stand in self.stands]
        self.timed = [self._numbered(behind[stand][1]) for stand in self.stands]
        self.bells = [numbers[:1] for numbers in self.timed]

    def _numbered(self, stands):
        return tuple([self.numbers[stand] for stand in stands])


def _all_behind(turns):
    """A dict from each stand that is reached to those behind its comings, and those behind its bell and ticks."""
    behind = {}
    waiting = [FIRST]
    while waiting:
        stand = waiting.pop()
        if stand not in behind:
            comings = [turns.stand_after(stand, move) for move in turns.comings_at(stand)]
            timed = [turns.stand_after(stand, move) for move in turns.timed_at(stand)]
            behind[stand] = (comings, timed)
            waiting.extend(comings)
            waiting.extend(timed)
    return behind
