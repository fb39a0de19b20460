"""All joint stands of two books that are reached, in numbers."""

from twoandabell.errors import TooMany
from twoandabell.pair.bounds import are_at_most
from twoandabell.pair.courses import load_with
from twoandabell.pair.graphs import BITS, FIRST_STAND, MASK, exchanged_number

# The parts of a row that tell where comings and wakings lead, and where bells and ticks do.
COMINGS = 1
TIMED = 2


class Walk:
    """The reached joint stands of two graphs, each with a number; `TooMany` if they are more than a limit.

    A number is made of those of both stands. What two tasks come to, they come to exchanged as well; so only one joint
    stand of each two is gone on from.

    `before` leads from each of all to one ahead of it, on a way with as few ticks and bells as possible. `layers` has
    for each number of ticks and bells the list of those that need so many, one of each two. `apart` is such a list of
    those at which different tasks would work, the nearest ones first. If it is not `whole`, a walk can end there.
    """

    def __init__(self, one, other, limit, *, whole=True):
        first = FIRST_STAND << BITS | FIRST_STAND
        self.one = one
        self.other = other
        self.before = {first: None}
        self.layers = []
        self.apart = []
        self._limit = limit
        self._whole = whole
        one.swap(FIRST_STAND)
        other.swap(FIRST_STAND)
        layer = [first]
        while layer:
            layer = self._with_comings(layer)
            if len(self.before) > limit:
                raise TooMany(limit)
            self.layers.append(layer)
            layer = [] if self.apart and self._can_end() else self._behind_ticks(layer)

    def stands_of(self, joints):
        """The ascending tuple of the joint stands with some numbers."""
        stands, others = self.one.stands, self.other.stands
        return tuple([(stands.get(joint >> BITS) or self.one.stand(joint >> BITS),
                       others.get(joint & MASK) or self.other.stand(joint & MASK)) for joint in sorted(joints)])

    def stands_of_both(self, joints):
        """The ascending tuple of the joint stands with some numbers, and of those with their tasks exchanged."""
        both = {joint: True for joint in joints}
        for joint in joints:
            both[_exchanged(joint)] = True
        return self.stands_of(list(both))

    def reached_table(self):
        """The table of just the reached joint stands, or `None`."""
        return None if self.apart else self.stands_of(list(self.before))

    def moves_to(self, joint):
        """The tuple of moves, with as few ticks and bells as possible, that lead to a reached joint stand."""
        moves = []
        while self.before[joint] is not None:
            moves.append(self._move_between(self.before[joint], joint))
            joint = self.before[joint]
        return tuple(moves[::-1])

    def shortest_load(self):
        """A load of two tasks, as short as possible, at whose last tick the books part, or `None`."""
        if not self.apart:
            return None
        return load_with((*self.moves_to(self.apart[0]), ("tick", "on")))

    def shortest_paper(self):
        """A paper that tells whether the books are alike."""
        if self.apart:
            return ("parting", self.shortest_load())
        return ("alike", self.reached_table())

    def _can_end(self):
        """Whether nothing further is asked for, now that the books part: neither joint stands, nor if they are many."""
        if not self._whole and not are_at_most(self.one.alone, self.other.alone, self._limit):
            self._whole = True
        return not self._whole

    def _with_comings(self, layer):
        """The joint stands of a list, and all to which only comings and wakings lead from them, one of each two."""
        found = []
        wave = layer
        while wave:
            found.extend(wave)
            moving = self._with_moves_ahead(wave)
            if self.apart and self._can_end():
                return found
            wave = self._behind(moving, COMINGS)
        return found

    def _behind_ticks(self, layer):
        """The new joint stands to which a bell leads from those of a list, or a tick in which the same task works."""
        return self._behind(layer, TIMED)

    def _with_moves_ahead(self, joints):
        """Those of some new joint stands from which comings or wakings lead on; it is kept which of all are apart."""
        rows, others = self.one.rows, self.other.rows
        found = []
        for joint in joints:
            worker, comings, _ = rows.get(joint >> BITS) or self.one.row(joint >> BITS)
            other_worker, _, _ = others.get(joint & MASK) or self.other.row(joint & MASK)
            if worker != other_worker:
                self.apart.append(joint)
            if comings:
                found.append(joint)
        return found

    def _behind(self, joints, part):
        """The new joint stands behind those of a list, by the moves that a part of each row tells; one of each two."""
        before, rows, others = self.before, self.one.rows, self.other.rows
        swaps, other_swaps = self.one.swaps, self.other.swaps
        found = []
        for joint in joints:
            left, right = joint >> BITS, joint & MASK
            row, other_row = rows[left], others[right]
            stands = row[part]
            if part == TIMED and row[0] != other_row[0]:
                # Where different tasks would work only the bell, which both begin with, leads on.
                stands = stands[:1]
            for one, two in zip(stands, other_row[part]):
                near = one << BITS | two
                if near not in before:
                    before[near] = joint
                    found.append(near)
                    mirror = (swaps.get(one) or self.one.swap(one)) << BITS
                    mirror = mirror | (other_swaps.get(two) or self.other.swap(two))
                    before[mirror] = swaps[left] << BITS | other_swaps[right]
        return found

    def _move_between(self, start, end):
        """The move by which a joint stand was found from the one ahead of it."""
        left, right = start >> BITS, start & MASK
        if left not in self.one.rows or right not in self.other.rows:
            # This one was not gone on from, but the one with the tasks exchanged was.
            move = self._move_between(_exchanged(start), _exchanged(end))
            return (move[0], 1 - move[1], *move[2:]) if move[0] in ("come", "wake") else move
        _, comings, timed = self.one.rows[left]
        _, other_comings, other_timed = self.other.rows[right]
        moves = self.one.moves_at(left)
        near, others = [*comings, *timed], [*other_comings, *other_timed]
        # Comings come first, then the bell: so no tick is taken where it would not lead on, or where a coming does.
        return [move for move, one, two in zip(moves, near, others) if one << BITS | two == end][0]


def _exchanged(joint):
    """The joint stand with the two tasks exchanged."""
    return exchanged_number(joint >> BITS) << BITS | exchanged_number(joint & MASK)
