"""All stands of two tasks to which moves by one book lead, in numbers."""

from twoandabell.book.alone import READY
from twoandabell.errors import TooMany
from twoandabell.pair.graphs import FIRST_STAND
from twoandabell.pair.stands import load_of
from twoandabell.run.loads import MAX_LOAD


class Course:
    """The stands of a graph to which moves lead from the first one, nearer ones ahead of those that need more ticks.

    `before` leads from each of them to one ahead of it, on a way with as few ticks and bells as possible. `passed` is
    the list of those at which task 1 would work while task 0 is ready or runs. If it is not `whole`, a course ends at
    the first one of these.
    """

    def __init__(self, graph, *, whole=True):
        self.before = {FIRST_STAND: None}
        self.passed = []
        self._graph = graph
        self._whole = whole
        layer = [FIRST_STAND]
        while layer:
            layer = self._with_comings(layer)
            layer = self._behind_ticks(layer) if whole or not self.passed else []

    def trail(self, stand):
        """The tuple of moves, with as few ticks and bells as possible, that lead to a stand."""
        moves = []
        while self.before[stand] is not None:
            start = self.before[stand]
            _, comings, timed = self._graph.row(start)
            moves.append(self._graph.moves_at(start)[[*comings, *timed].index(stand)])
            stand = start
        return tuple(moves[::-1])

    def _with_comings(self, layer):
        """The stands of a list, and all to which only comings and wakings lead from them."""
        found = list(layer)
        waiting = list(layer)
        while waiting:
            stand = waiting.pop()
            worker, comings, _ = self._graph.row(stand)
            if worker == 1 and stand >> 7 >= READY:
                self.passed.append(stand)
                if not self._whole:
                    return found
            for near in comings:
                if near not in self.before:
                    self.before[near] = stand
                    found.append(near)
                    waiting.append(near)
        return found

    def _behind_ticks(self, layer):
        """The new stands to which a bell or a tick leads from those of a list."""
        found = []
        for stand in layer:
            _, _, timed = self._graph.row(stand)
            for near in timed:
                if near not in self.before:
                    self.before[near] = stand
                    found.append(near)
        return found


def load_with(moves):
    """The load of some moves from the first stand on; `TooMany` if it would have too many ticks."""
    if many_timed(moves) > MAX_LOAD:
        raise TooMany(MAX_LOAD)
    return load_of(moves)


def many_timed(moves):
    """The number of ticks and bells among some moves."""
    return len([move for move in moves if move[0] in ("tick", "bell")])
