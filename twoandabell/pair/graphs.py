"""The stands of two tasks by a book, in numbers. Nothing is checked here: callers do it.

The number of a stand is made of those of its two parts (book/alone.py) and of a last bit, which is 1 if the second task
is the one ahead at the level of both. So numbers are ascending as stands are.
"""

from twoandabell.book.alone import AWAY, ENDED, READY, RUNS, number_of

# The number of the first stand, at which both are away.
FIRST_STAND = 1560
# How many bits a number has, and the greatest number of so many.
BITS = 13
MASK = 8191

# Where a task enters a level so that the second one is ahead there: at the back the first one, at the front the second.
AHEAD = ("back", "front")

BELL = ("bell",)
# Ascending, as moves are told.
TICKS = (("tick", "end"), ("tick", "on"), ("tick", "sleep"), ("tick", "way"))


class Graph:
    """What leads from each stand of two tasks, of any ranks or of some; each row is told when it is first asked for.

    The row of a stand is a triple: the task that would work in a tick now, or `None`; the stands behind the comings and
    wakings that are possible; and those behind the bell and the ticks that are possible, in the order of `moves_at`.
    """

    def __init__(self, book, first=None, second=None):
        self.alone = book.told_alone()
        every = list(range(len(book.ranks)))
        self._ranks = (every if first is None else first, every if second is None else second)
        self.rows = {}
        self.stands = {}
        self.swaps = {}
        self._works = {}
        self._words = {}

    def row(self, stand):
        """The row of a stand."""
        found = self.rows.get(stand)
        if found is None:
            one, two = stand >> 7, stand >> 1 & 63
            comings = () if one >= ENDED and two >= ENDED else self._comings(one, two)
            worker, timed = self._timed(stand)
            found = (worker, comings, timed)
            self.rows[stand] = found
        return found

    def stand(self, number):
        """The stand with this number."""
        found = self.stands.get(number)
        if found is None:
            found = self._written(number)
            self.stands[number] = found
        return found

    def all_stands(self):
        """A dict from the numbers of all stands that were swapped, and of those with the tasks exchanged, to them."""
        stands = self.stands
        for number, mirror in self.swaps.items():
            if number not in stands:
                stands[number] = self._written(number)
                stands[mirror] = self._written(mirror)
        return stands

    def swap(self, number):
        """The stand with the two tasks exchanged."""
        found = exchanged_number(number)
        self.swaps[number] = found
        return found

    def stand_behind(self, number, move):
        """The stand behind a move that is possible; nothing else is told."""
        parts = (number >> 7, number >> 1 & 63)
        if move[0] == "come":
            return _placed(move[1], self.alone.comers[move[2]], "back", parts[1 - move[1]])
        if move[0] == "wake":
            behind, place = self.alone.after(parts[move[1]], "wake")
            return _placed(move[1], behind, place, parts[1 - move[1]])
        bell, worker, works, other = self._at_work(number)
        if move == BELL:
            return bell
        if move[1] == "end":
            return _placed(worker, ENDED, None, other)
        behind, place = self.alone.after(works, move[1])
        return _placed(worker, behind, place, other)

    def comings_at(self, number):
        """The list of the comings and wakings that are possible."""
        parts = (number >> 7, number >> 1 & 63)
        found = [("come", task, rank) for task in (0, 1) if parts[task] == AWAY for rank in self._ranks[task]]
        return found + [("wake", task) for task in (0, 1) if parts[task] < AWAY]

    def moves_at(self, number):
        """The list of the moves that are possible: comings, wakings, the bell, and ticks."""
        idle = number >> 7 < READY and number >> 1 & 63 < READY
        return [*self.comings_at(number), BELL] if idle else [*self.comings_at(number), BELL, *TICKS]

    def _comings(self, one, two):
        """The tuple of the stands behind the comings and wakings that are possible."""
        found = []
        comers = self.alone.comers
        if one == AWAY:
            found = [_placed(0, comers[rank], "back", two) for rank in self._ranks[0]]
        if two == AWAY:
            found = found + [_placed(1, comers[rank], "back", one) for rank in self._ranks[1]]
        if one < AWAY:
            behind, place = self.alone.after(one, "wake")
            found.append(_placed(0, behind, place, two))
        if two < AWAY:
            behind, place = self.alone.after(two, "wake")
            found.append(_placed(1, behind, place, one))
        return tuple(found)

    def _timed(self, stand):
        """The pair of who would work in a tick now, and of the stands behind the bell and the ticks."""
        bell, worker, works, other = self._at_work(stand)
        return worker, (bell,) if worker is None else (bell, *self._behind_words(worker, works, other))

    def _at_work(self, stand):
        """The stand behind a bell; who would work in a tick now, or `None`; and the parts of this and the other task.

        This is as ahead of the work: if a task is taken away in the tick, its part tells this already.
        """
        one, two = stand >> 7, stand >> 1 & 63
        worker = worker_of(self.alone.takers, stand)
        runner = 0 if one >= RUNS else 1 if two >= RUNS else None
        bell = stand
        if runner is not None:
            runs, rests = (one, two) if runner == 0 else (two, one)
            if self.alone.takers[(runs - RUNS) >> 2]:
                lost, place = self.alone.after(runs, "lost")
                bell = _placed(runner, lost, place, rests)
                if worker != runner:
                    return bell, worker, rests, lost
        return (bell, worker, one, two) if worker == 0 else (bell, worker, two, one)

    def _behind_words(self, task, works, other):
        """The tuple of the stands behind the words of a tick in which a task works, in the order of the ticks."""
        state = works & 15
        key = (task << 4 | state) << 6 | other
        found = self._words.get(key)
        if found is None:
            on, on_place, asleep, way, way_place = self._works.get(state) or self._work(state)
            on_tie = 1 if on_place == AHEAD[task] and on >> 2 == other >> 2 else 0
            way_tie = 1 if way_place == AHEAD[task] and way >> 2 == other >> 2 else 0
            if task == 0:
                rest = other << 1
                found = (ENDED << 7 | rest, on << 7 | rest | on_tie, asleep << 7 | rest, way << 7 | rest | way_tie)
            else:
                rest = other << 7
                found = (rest | ENDED << 1, rest | on << 1 | on_tie, rest | asleep << 1, rest | way << 1 | way_tie)
            self._words[key] = found
        return found

    def _work(self, state):
        """What one task comes to behind a tick of work with this own state, by each word but the end."""
        alone = self.alone
        works = READY + state
        found = (*alone.after(works, "on"), alone.after(works, "sleep")[0], *alone.after(works, "way"))
        self._works[state] = found
        return found

    def _written(self, number):
        one, two = number >> 7, number >> 1 & 63
        ahead = number & 1 if one >> 2 == two >> 2 and READY <= one < RUNS else None
        return (self.alone.part(one), self.alone.part(two), ahead)


def number_of_stand(stand):
    """The number of a stand."""
    one, two, ahead = stand
    return number_of(one) << 7 | number_of(two) << 1 | (ahead or 0)


def worker_of(takers, stand):
    """The task that would work in a tick now, or `None`; told with `takes` of each level."""
    one, two = stand >> 7, stand >> 1 & 63
    if one >= RUNS:
        return 1 if READY <= two < RUNS and (two - READY) >> 2 < takers[(one - RUNS) >> 2] else 0
    if two >= RUNS:
        return 0 if READY <= one < RUNS and (one - READY) >> 2 < takers[(two - RUNS) >> 2] else 1
    if one < READY:
        return None if two < READY else 1
    # The parts of ready tasks at better levels have lesser numbers.
    return 0 if two < READY or one >> 2 < two >> 2 or (one >> 2 == two >> 2 and not stand & 1) else 1


def exchanged_number(stand):
    """The number of a stand with the two tasks exchanged."""
    one, two = stand >> 7, stand >> 1 & 63
    if READY <= one < RUNS and one >> 2 == two >> 2:
        return two << 7 | one << 1 | 1 - (stand & 1)
    return two << 7 | one << 1


def _placed(task, part, place, other):
    """The stand in which a task has come to this part, and by this has entered a queue at a place, or not."""
    tie = 1 if place == AHEAD[task] and part >> 2 == other >> 2 else 0
    return part << 7 | other << 1 | tie if task == 0 else other << 7 | part << 1 | tie
