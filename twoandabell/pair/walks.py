"""All joint stands of two books that are reached."""

from twoandabell.errors import TooMany
from twoandabell.pair.stands import FIRST, load_of
from twoandabell.run.loads import MAX_LOAD


class Walk:
    """The reached joint stands of two graphs, as pairs of numbers of stands; `TooMany` for more than the limit.

    `before` leads from each of them to one ahead of it, on a way with as few ticks and bells as possible. `layers` has
    for each number of ticks and bells the list of those that need so many. `apart` is the list of those at which
    different tasks would work, the nearest ones first.
    """

    def __init__(self, one, other, limit):
        first = (one.numbers[FIRST], other.numbers[FIRST])
        self.one = one
        self.other = other
        self.before = {first: None}
        self.layers = []
        self.apart = []
        layer = [first]
        while layer:
            layer = self._with_comings(layer)
            if len(self.before) > limit:
                raise TooMany(limit)
            self.layers.append(layer)
            layer = self._behind_ticks(layer)

    def stands_of(self, pairs):
        """The ascending tuple of the joint stands that some pairs of numbers stand for."""
        one, other = self.one.stands, self.other.stands
        return tuple([(one[left], other[right]) for left, right in sorted(pairs)])

    def reached_table(self):
        """The table of just the reached joint stands, or `None`."""
        return None if self.apart else self.stands_of(list(self.before))

    def moves_to(self, pair):
        """The tuple of moves, with as few ticks and bells as possible, that lead to a reached joint stand."""
        moves = []
        while self.before[pair] is not None:
            moves.append(self._move_between(self.before[pair], pair))
            pair = self.before[pair]
        return tuple(moves[::-1])

    def shortest_load(self):
        """A load of two tasks, as short as possible, at whose last tick the books part, or `None`."""
        if not self.apart:
            return None
        moves = (*self.moves_to(self.apart[0]), ("tick", "on"))
        if len([move for move in moves if move[0] in ("tick", "bell")]) > MAX_LOAD:
            raise TooMany(MAX_LOAD)
        return load_of(moves)

    def shortest_paper(self):
        """A paper that tells whether the books are alike."""
        if self.apart:
            return ("parting", self.shortest_load())
        return ("alike", self.reached_table())

    def _with_comings(self, layer):
        """The pairs of a list, and all to which only comings and wakings lead from them."""
        comings, others, before = self.one.comings, self.other.comings, self.before
        found = list(layer)
        waiting = list(layer)
        while waiting:
            pair = waiting.pop()
            for near in zip(comings[pair[0]], others[pair[1]]):
                if near not in before:
                    before[near] = pair
                    found.append(near)
                    waiting.append(near)
        return found

    def _behind_ticks(self, layer):
        """The new pairs to which a bell leads from those of a list, or a tick in which the same task works."""
        one, other, before = self.one, self.other, self.before
        found = []
        for pair in layer:
            left, right = pair
            same = one.workers[left] == other.workers[right]
            if not same:
                self.apart.append(pair)
            # Where different tasks would work only the bell, which both begin with, leads on.
            for near in zip(one.timed[left] if same else one.bells[left], other.timed[right]):
                if near not in before:
                    before[near] = pair
                    found.append(near)
        return found

    def _move_between(self, start, end):
        """The move by which a pair was found from the one ahead of it."""
        left, right = start
        turns, stand = self.one.turns, self.one.stands[left]
        moves = [*turns.comings_at(stand), *turns.timed_at(stand)]
        near = [*self.one.comings[left], *self.one.timed[left]]
        others = [*self.other.comings[right], *self.other.timed[right]]
        # Comings come first, then the bell: so no tick is taken where it would not lead on, or where a coming does.
        return [move for move, one, two in zip(moves, near, others) if (one, two) == end][0]
