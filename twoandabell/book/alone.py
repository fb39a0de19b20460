"""What becomes of one task by a book, in numbers. Nothing is checked here: callers do it.

What a stand tells of a task is a part, and each part has a number, in the ascending order of parts. An own state
(level, left) is numbered 4 * level + left, with 0 for `None`; to this is added what the mode begins with.
"""

# What the modes begin with, asleep ones with 0, and the numbers of the parts without an own state.
FIRST_NUMBERS = {"asleep": 0, "away": 12, "ended": 13, "ready": 16, "runs": 32}
AWAY = 12
ENDED = 13
READY = 16
RUNS = 32
# The modes by what numbers begin with, in sixteens.
MODES = ("asleep", "ready", "runs")


class Alone:
    """What one task comes to by the book with some levels and ranks; a move is told when first asked for, and kept."""

    def __init__(self, levels, ranks):
        self._levels = levels
        self._ticks = [level.ticks for level in levels]
        self.takers = [level.takes for level in levels]
        self.comers = [READY + 4 * level + (self._ticks[level] or 0) for level in ranks]
        self._known = {}
        self._parts = {}
        self.kept = {}
        self._reached = None

    def after(self, number, move):
        """The pair of the number behind a move of a task alone, and of the place of the queue it enters, or `None`."""
        key = (number, move)
        found = self._known.get(key)
        if found is None:
            found = self._told(number & 15, move)
            self._known[key] = found
        return found

    def after_with_part(self, key):
        """What `after` tells of a pair of a number and a move, with the part behind it; this is put into `kept`."""
        number, move = key
        behind, place = self._told(number & 15, move)
        found = (behind, self.part(behind), place)
        self.kept[key] = found
        return found

    def entered(self, word, state):
        """The pair of the number and the place with which a task with an own state enters by the entry with a word."""
        entry = self._levels[state >> 2][word]
        behind = self._anew(entry[0]) if word == "used" else self._entering(entry, state & 3)
        return (READY + behind, entry[1])

    def part(self, number):
        """The part with this number."""
        found = self._parts.get(number)
        if found is None:
            found = self._written(number)
            self._parts[number] = found
        return found

    def behind_loss(self, number):
        """The list of the number behind a loss, if a task with this part can be taken away; else it is empty."""
        if number < RUNS or not self.takers[(number - RUNS) >> 2]:
            return []
        return [self.after(number, "lost")[0]]

    def sizes(self):
        """The pair of the most numbers of ready and of running parts; there are as many asleep as ready ones."""
        many = [1 if ticks is None else ticks for ticks in self._ticks]
        return sum(many), sum([1 if ticks is None else ticks - 1 for ticks in self._ticks])

    def reached(self):
        """The ascending tuple of the numbers of all postures to which moves lead from those of comers."""
        if self._reached is None:
            asleep, ready, runs = {}, {}, {}
            waiting = [number - READY for number in self.comers]
            while waiting:
                state = waiting.pop()
                if state not in ready:
                    ready[state] = True
                    self._work_through(state, asleep, runs, waiting)
            found = [READY + state for state in ready] + [RUNS + state for state in runs]
            self._reached = tuple(sorted(list(asleep) + found))
        return self._reached

    def postures(self, numbers):
        """The tuple of the postures with some numbers."""
        lefts = [None if ticks is None else left for ticks in self._ticks for left in (0, 1, 2, 3)]
        return tuple([(MODES[number >> 4], (number & 15) >> 2, lefts[number & 15]) for number in numbers])

    def _work_through(self, state, asleep, runs, waiting):
        """Let a task work from an own state on until its slice is used up, or it comes to where it worked before.

        Where it would sleep and run is put into dicts, and the states with which it would enter queues into a list.
        """
        level = self._levels[state >> 2]
        entries = (level.wake, level.way, level.lost) if level.takes else (level.wake, level.way)
        bare = self._ticks[state >> 2] is None
        while True:
            state = state if bare else state - 1
            if state in asleep:
                return
            asleep[state] = True
            left = state & 3
            if left == 0 and not bare:
                # Who has used up a slice is not taken away, for it does not run on.
                waiting.append(self._entering(level.wake, 0))
                waiting.append(self._entering(level.way, 0))
                waiting.append(self._anew(level.used[0]))
                return
            runs[state] = True
            for entry in entries:
                waiting.append(self._entering(entry, left))

    def _told(self, state, move):
        """What `after` tells of a task with this own state, awake or asleep."""
        if move in ("wake", "lost"):
            return self.entered(move, state)
        bare = self._ticks[state >> 2] is None
        state = state if bare else state - 1
        if move == "sleep":
            return (state, None)
        if move == "way":
            return self.entered(move, state)
        return (RUNS + state, None) if bare or state & 3 else self.entered("used", state)

    def _entering(self, entry, left):
        """The own state with which a task enters by a triple of a level, a place and a rest; 0 left is as `None`."""
        level, _, rest = entry
        ticks = self._ticks[level]
        if ticks is None:
            return 4 * level
        return 4 * level + (left if rest == "kept" and 0 < left < ticks else ticks)

    def _anew(self, level):
        """The own state of a task that enters a level with a new rest."""
        return 4 * level + (self._ticks[level] or 0)

    def _written(self, number):
        if number == AWAY:
            return ("away",)
        if number == ENDED:
            return ("ended",)
        level = (number & 15) >> 2
        return (MODES[number >> 4], level, None if self._ticks[level] is None else number & 3)


def number_of(part):
    """The number of a part."""
    first = FIRST_NUMBERS[part[0]]
    return first if len(part) == 1 else first + 4 * part[1] + (part[2] or 0)
