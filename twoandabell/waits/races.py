"""Races of two tasks that go on whenever they work, by the stands of a graph in numbers. Nothing is checked here."""

from twoandabell.book.alone import READY

ON = ("tick", "on")
BELL = ("bell",)
# Where these moves stand among the bell and the ticks of a row.
PLACES = {("bell",): 0, ("tick", "on"): 2}


class Races:
    """The greatest leads of races from some stands on, from which no move of a race leads away.

    `leads` has them by the stands, as far as they have an end; `is_endless` tells whether some lead has none.
    """

    def __init__(self, graph, stands):
        self.leads = {stand: 0 for stand in stands}
        self.is_endless = False
        self._graph = graph
        # Where task 1 leads further than it could without a ring, the best moves lead to one.
        self._further = None
        self._best = {}
        self._moves_on = _all_behind(graph, stands)
        ahead = self._all_ahead()
        # Without a ring in which it gains, task 1 can't work more often than there are stands at which it would.
        limit = len([stand for stand in stands if graph.row(stand)[0] == 1])
        changed = list(stands)
        while changed and not self.is_endless:
            changed = self._led_further(changed, ahead, limit)

    def best_race(self, start):
        """The tuple of moves of a race from a stand on with the greatest lead, which has an end; it can be empty."""
        ways = {start: ()}
        waiting = [start]
        while waiting:
            stand = waiting.pop(0)
            if self.leads[stand] == 0:
                return ways[stand]
            for move, behind, gain in self._moves_on[stand]:
                if behind not in ways and gain + self.leads[behind] == self.leads[stand]:
                    ways[behind] = (*ways[stand], move)
                    waiting.append(behind)
        return ()

    def endless_race(self):
        """The pair of a stand and of the moves that lead from it back to it, in which task 1 works more often."""
        stand = self._further
        seen = {}
        while stand not in seen:
            seen[stand] = True
            _, stand = self._best[stand]
        moves = []
        at = stand
        while not moves or at != stand:
            move, at = self._best[at]
            moves.append(move)
        return stand, tuple(moves)

    def _all_ahead(self):
        """A dict from each stand to the triples of a stand ahead of it, the move that leads to it, and its gain."""
        ahead = {}
        for stand, rows in self._moves_on.items():
            for move, behind, gain in rows:
                ahead.setdefault(behind, []).append((stand, move, gain))
        return ahead

    def _led_further(self, changed, ahead, limit):
        """The list of the stands from which task 1 now leads further, as it did from some others before."""
        found = {}
        for stand in changed:
            for before, move, gain in ahead.get(stand, ()):
                lead = self.leads[stand] + gain
                if lead > self.leads[before]:
                    self.leads[before] = lead
                    self._best[before] = (move, stand)
                    found[before] = True
                    if lead > limit:
                        self.is_endless = True
                        self._further = before
        return list(found)


def race_stands(stands):
    """The list of those of some stands at which neither task is away, asleep or ended."""
    return [stand for stand in stands if stand >> 7 >= READY and stand >> 1 & 63 >= READY]


def after_race_move(graph, stand, move):
    """The pair of the stand behind a move of a race, and of what task 1 gains by it."""
    worker, _, timed = graph.row(stand)
    gain = 0 if move == BELL else 1 if worker == 1 else -1
    return timed[PLACES[move]], gain


def _all_behind(graph, stands):
    """A dict from each stand to the triples of a move of a race, the stand behind it, and what task 1 gains by it."""
    found = {}
    for stand in stands:
        worker, _, timed = graph.row(stand)
        found[stand] = [(ON, timed[2], 1 if worker == 1 else -1)]
        if timed[0] != stand:
            found[stand].append((BELL, timed[0], 0))
    return found
