"""What becomes of one task by a book, in numbers. Nothing is checked here: callers do it.

What a stand tells of a task is a part, and each part has a number, in the ascending order of parts. An own state
(level, left) is numbered 4 * level + left, with 0 for `None`; to this is added what the mode begins with.
"""

from twoandabell.book.moves import left_in

# What the modes begin with, asleep ones with 0, and the numbers of the parts without an own state.
FIRST_NUMBERS = {"asleep": 0, "away": 12, "ended": 13, "ready": 16, "runs": 32}
AWAY = 12
ENDED = 13
READY = 16
RUNS = 32


class Alone:
    """What one task comes to by a book; each move is told when it is first asked for, and then kept."""

    def __init__(self, book):
        levels = book.levels
        self._levels = levels
        self._ticks = [level.ticks for level in levels]
        self.takers = [level.takes for level in levels]
        self.comers = [READY + 4 * level + (self._ticks[level] or 0) for level in book.ranks]
        self.known = {}
        self._parts = {}

    def after(self, number, move):
        """The pair of the number behind a move of a task alone, and of the place of the queue it enters, or `None`."""
        key = (number, move)
        found = self.known.get(key)
        if found is None:
            found = self._told(number & 15, move)
            self.known[key] = found
        return found

    def part(self, number):
        """The part with this number."""
        found = self._parts.get(number)
        if found is None:
            found = self._written(number)
            self._parts[number] = found
        return found

    def behind_loss(self, number):
        """The list of the number behind a loss, if a task with this part can be taken away; else it is empty."""
        if number < RUNS or not self.takers[number - RUNS >> 2]:
            return []
        return [self.after(number, "lost")[0]]

    def sizes(self):
        """The pair of the most numbers of ready and of running parts; there are as many asleep as ready ones."""
        many = [1 if ticks is None else ticks for ticks in self._ticks]
        return sum(many), sum([1 if ticks is None else ticks - 1 for ticks in self._ticks])

    def reached(self):
        """The ascending list of the numbers of all postures to which moves lead from those of comers."""
        asleep, ready, runs = {}, {}, {}
        waiting = [number - READY for number in self.comers]
        while waiting:
            state = waiting.pop()
            if state not in ready:
                ready[state] = True
                waiting.extend(self._worked_through(state, asleep, runs))
        found = [READY + state for state in ready] + [RUNS + state for state in runs]
        return sorted(list(asleep) + found)

    def _worked_through(self, state, asleep, runs):
        """The states with which a task enters that works on from this one on, and all between, as far as it is new."""
        level = self._levels[state >> 2]
        bare = self._ticks[state >> 2] is None
        found = []
        while True:
            state = state if bare else state - 1
            if state in asleep:
                return found
            asleep[state] = True
            found.append(self._entering(level.wake, state))
            found.append(self._entering(level.way, state))
            if not bare and not state & 3:
                found.append(self._anew(level.used[0]))
                return found
            runs[state] = True
            if level.takes:
                found.append(self._entering(level.lost, state))

    def _told(self, state, move):
        """What `after` tells of a task with this own state, awake or asleep."""
        level = self._levels[state >> 2]
        if move == "wake":
            return (READY + self._entering(level.wake, state), level.wake[1])
        if move == "lost":
            return (READY + self._entering(level.lost, state), level.lost[1])
        if self._ticks[state >> 2] is not None:
            state = state - 1
        if move == "sleep":
            return (state, None)
        if move == "way":
            return (READY + self._entering(level.way, state), level.way[1])
        if self._ticks[state >> 2] is not None and not state & 3:
            return (READY + self._anew(level.used[0]), level.used[1])
        return (RUNS + state, None)

    def _entering(self, entry, state):
        """The own state with which a task enters by a triple of a level, a place and a rest."""
        level, _, rest = entry
        return 4 * level + (left_in(self._ticks[level], rest, state & 3) or 0)

    def _anew(self, level):
        """The own state of a task that enters a level with a new rest."""
        return 4 * level + (self._ticks[level] or 0)

    def _written(self, number):
        if number == AWAY:
            return ("away",)
        if number == ENDED:
            return ("ended",)
        mode = "runs" if number >= RUNS else "ready" if number >= READY else "asleep"
        level = (number & 15) >> 2
        return (mode, level, None if self._ticks[level] is None else number & 3)


def number_of(part):
    """The number of a part."""
    first = FIRST_NUMBERS[part[0]]
    return first if len(part) == 1 else first + 4 * part[1] + (part[2] or 0)
