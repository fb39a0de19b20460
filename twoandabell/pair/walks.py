"""All joint stands of two books that are reached, in numbers."""

from twoandabell.errors import TooMany
from twoandabell.pair.bounds import are_at_most
from twoandabell.pair.courses import load_with
from twoandabell.pair.graphs import BITS, FIRST_STAND, MASK


class Walk:
    """The reached joint stands of two graphs, numbered by the numbers of both stands; `TooMany` for more than a limit.

    `before` leads from each of them to one ahead of it, on a way with as few ticks and bells as possible. `layers` has
    for each number of ticks and bells the list of those that need so many. `apart` is the list of those at which
    different tasks would work, the nearest ones first. If it is not `whole`, a walk ends at the first one of these.
    """

    def __init__(self, one, other, limit, *, whole=True):
        self.one = one
        self.other = other
        first = FIRST_STAND << BITS | FIRST_STAND
        self.before = {first: None}
        self.layers = []
        self.apart = []
        self._limit = limit
        self._whole = whole
        layer = [first]
        while layer:
            layer = self._with_comings(layer)
            if len(self.before) > limit:
                raise TooMany(limit)
            self.layers.append(layer)
            layer = [] if self.apart and self._can_end() else self._behind_ticks(layer)

    def stands_of(self, joints):
        """The ascending tuple of the joint stands with some numbers."""
        one, other = self.one, self.other
        return tuple([(one.stand(joint >> BITS), other.stand(joint & MASK)) for joint in sorted(joints)])

    def reached_table(self):
        """The table of just the reached joint stands, or `None`."""
        return None if self.apart else self.stands_of(list(self.before))

    def moves_to(self, joint):
        """The tuple of moves, with as few ticks and bells as possible, that lead to a reached joint stand."""
        moves = []
        while self.before[joint] is not None:
            moves.append(self._move_between(self.before[joint], joint))
            joint = self.before[joint]
        return tuple(moves[::-1])

    def shortest_load(self):
        """A load of two tasks, as short as possible, at whose last tick the books part, or `None`."""
        if not self.apart:
            return None
        return load_with((*self.moves_to(self.apart[0]), ("tick", "on")))

    def shortest_paper(self):
        """A paper that tells whether the books are alike."""
        if self.apart:
            return ("parting", self.shortest_load())
        return ("alike", self.reached_table())

    def _can_end(self):
        """Whether nothing further is asked for, now that the books part: neither joint stands, nor if they are many."""
        if not self._whole and not are_at_most(self.one.alone, self.other.alone, self._limit):
            self._whole = True
        return not self._whole

    def _with_comings(self, layer):
        """The joint stands of a list, and all to which only comings and wakings lead from them."""
        rows, others, before = self.one.rows, self.other.rows, self.before
        found = list(layer)
        waiting = list(layer)
        while waiting:
            joint = waiting.pop()
            left, right = joint >> BITS, joint & MASK
            worker, comings, _ = rows.get(left) or self.one.row(left)
            other_worker, other_comings, _ = others.get(right) or self.other.row(right)
            if worker != other_worker:
                self.apart.append(joint)
                if self._can_end():
                    return found
            for one, two in zip(comings, other_comings):
                near = one << BITS | two
                if near not in before:
                    before[near] = joint
                    found.append(near)
                    waiting.append(near)
        return found

    def _behind_ticks(self, layer):
        """The new joint stands to which a bell leads from those of a list, or a tick in which the same task works."""
        rows, others, before = self.one.rows, self.other.rows, self.before
        found = []
        for joint in layer:
            worker, _, timed = rows[joint >> BITS]
            other_worker, _, other_timed = others[joint & MASK]
            if worker != other_worker:
                # Where different tasks would work only the bell, which both begin with, leads on.
                timed = timed[:1]
            for one, two in zip(timed, other_timed):
                near = one << BITS | two
                if near not in before:
                    before[near] = joint
                    found.append(near)
        return found

    def _move_between(self, start, end):
        """The move by which a joint stand was found from the one ahead of it."""
        left, right = start >> BITS, start & MASK
        _, comings, timed = self.one.rows[left]
        _, other_comings, other_timed = self.other.rows[right]
        moves = self.one.moves_at(left)
        near, others = [*comings, *timed], [*other_comings, *other_timed]
        # Comings come first, then the bell: so no tick is taken where it would not lead on, or where a coming does.
        return [move for move, one, two in zip(moves, near, others) if one << BITS | two == end][0]
