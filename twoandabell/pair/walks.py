"""All joint stands of two books that are reached, in numbers."""

from twoandabell.errors import TooMany
from twoandabell.pair.bounds import are_at_most
from twoandabell.pair.courses import load_with
from twoandabell.pair.graphs import BITS, FIRST_STAND, MASK, exchanged_number


class Walk:
    """The reached joint stands of two graphs, each with a number; `TooMany` if they are more than a limit.

    A number is made of those of both stands. What two tasks come to, they come to exchanged as well; so only one joint
    stand of each two is gone on from.

    `before` leads from each of these to one ahead of it, on a way with as few ticks and bells as possible, and from the
    first one to `None`; from each of the others it leads to the complement (`~`) of the one of the two, which is below
    0 for every number, also for 0. `layers` has for each number of ticks and bells the list of those that need so many.
    `apart` is the list of those at which different tasks would work, the nearest ones first. If it is not `whole`, a
    walk can end there.
    """

    def __init__(self, one, other, limit, *, whole=True):
        first = FIRST_STAND << BITS | FIRST_STAND
        self.one = one
        self.other = other
        self.before = {first: None}
        self.layers = []
        self.apart = []
        self._limit = limit
        self._whole = whole
        one.swap(FIRST_STAND)
        other.swap(FIRST_STAND)
        layer = [first]
        while layer:
            layer, timed = self._with_comings(layer)
            if len(self.before) > limit:
                raise TooMany(limit)
            self.layers.append(layer)
            layer = [] if self.apart and self._can_end() else self._behind(timed)

    def stands_of(self, joints):
        """The ascending tuple of the joint stands with some numbers."""
        stands, others = self.one.all_stands(), self.other.all_stands()
        return tuple([(stands[joint >> BITS], others[joint & MASK]) for joint in sorted(joints)])

    def stands_of_both(self, joints):
        """The ascending tuple of the joint stands with some numbers, and of those with their tasks exchanged."""
        both = {joint: True for joint in joints}
        for joint in joints:
            both[exchanged_number(joint >> BITS) << BITS | exchanged_number(joint & MASK)] = True
        return self.stands_of(list(both))

    def reached_table(self):
        """The table of just the reached joint stands, or `None`."""
        return None if self.apart else self.stands_of(list(self.before))

    def moves_to(self, joint):
        """The tuple of moves, with as few ticks and bells as possible, that lead to a reached joint stand."""
        start = self.before[joint]
        if start is not None and start < 0:
            return tuple([_exchanged_move(move) for move in self.moves_to(~start)])
        moves = []
        while start is not None:
            moves.append(self._move_between(start, joint))
            joint = start
            start = self.before[joint]
        return tuple(moves[::-1])

    def shortest_load(self):
        """A load of two tasks, as short as possible, at whose last tick the books part, or `None`."""
        if not self.apart:
            return None
        return load_with((*self.moves_to(self.apart[0]), ("tick", "on")))

    def shortest_paper(self):
        """A paper that tells whether the books are alike."""
        if self.apart:
            return ("parting", self.shortest_load())
        return ("alike", self.reached_table())

    def _can_end(self):
        """Whether nothing further is asked for, now that the books part: neither joint stands, nor if they are many."""
        if not self._whole and not are_at_most(self.one.alone, self.other.alone, self._limit):
            self._whole = True
        return not self._whole

    def _with_comings(self, layer):
        """The joint stands of a list, and all to which only comings and wakings lead from them, one of each two.

        With them the rows of their bells and ticks are told, for `_behind`.
        """
        found, timed = [], []
        wave = layer
        while wave:
            found.extend(wave)
            comings = self._rows_of(wave, timed)
            if self.apart and self._can_end():
                return found, timed
            wave = self._behind(comings)
        return found, timed

    def _rows_of(self, joints, timed):
        """For new joint stands the triples of each and of the stands behind its comings and wakings by both books.

        The triples for the bell and the ticks are put into a list; and it is kept at which different tasks would work.
        """
        rows, others = self.one.rows, self.other.rows
        found = []
        for joint in joints:
            worker, comings, ticks = rows.get(joint >> BITS) or self.one.row(joint >> BITS)
            other_worker, other_comings, other_ticks = others.get(joint & MASK) or self.other.row(joint & MASK)
            if comings:
                found.append((joint, comings, other_comings))
            if worker == other_worker:
                timed.append((joint, ticks, other_ticks))
            else:
                self.apart.append(joint)
                # There only the bell leads on, which both begin with.
                timed.append((joint, ticks[:1], other_ticks))
        return found

    def _behind(self, triples):
        """The new joint stands behind some, told with the stands behind them by both books; one of each two."""
        before, swaps, other_swaps = self.before, self.one.swaps, self.other.swaps
        found = []
        for joint, stands, other_stands in triples:
            for one, two in zip(stands, other_stands):
                near = one << BITS | two
                if near not in before:
                    mirror = (swaps[one] if one in swaps else self.one.swap(one)) << BITS
                    before[mirror | (other_swaps[two] if two in other_swaps else self.other.swap(two))] = ~near
                    # It can be its own mirror.
                    before[near] = joint
                    found.append(near)
        return found

    def _move_between(self, start, end):
        """The move by which a joint stand was found from the one ahead of it."""
        left, right = start >> BITS, start & MASK
        _, comings, timed = self.one.rows[left]
        _, other_comings, other_timed = self.other.rows[right]
        moves = self.one.moves_at(left)
        near, others = [*comings, *timed], [*other_comings, *other_timed]
        # Comings come first, then the bell: so no tick is taken where it would not lead on, or where a coming does.
        return [move for move, one, two in zip(moves, near, others) if one << BITS | two == end][0]


def _exchanged_move(move):
    """The move of the other task of two."""
    return (move[0], 1 - move[1], *move[2:]) if move[0] in ("come", "wake") else move
