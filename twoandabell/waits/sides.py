"""Side stands beside a waiting task, in numbers, and the lives that lead on from them. Nothing is checked here.

The numbers are those of parts (book/alone.py); the two parts without an own state stand for `behind` and `out`.
"""

from twoandabell.book.alone import READY, RUNS

BEHIND = 12
OUT = 13
BEHIND_STAND = ("behind",)
OUT_STAND = ("out",)
BELL = ("bell",)
WAKE = ("wake",)
END = ("end",)
# Ascending; these are the steps with which the other task works.
WORK = (("end",), ("on",), ("sleep",), ("way",))


class Sides:
    """The steps of another task beside one that waits at a level; they are told when first asked for."""

    def __init__(self, alone, level):
        self._alone = alone
        self._level = level
        self._steps = {}
        self._most = {}
        self._ring = None

    def stand(self, number):
        """The side stand with this number."""
        if number == BEHIND:
            return BEHIND_STAND
        return OUT_STAND if number == OUT else self._alone.part(number)

    def steps(self, number):
        """The list of the pairs of a step from a side stand and what is behind it, the steps ascending."""
        found = self._steps.get(number)
        if found is None:
            found = self._told(number)
            self._steps[number] = found
        return found

    def behind(self, number, steps):
        """The side stand behind some steps, which are possible."""
        for step in steps:
            number = [near for own, near in self.steps(number) if own == step][0]
        return number

    def reached(self, firsts):
        """The ascending list of all side stands to which steps lead from some first ones, these included."""
        found = {}
        waiting = list(firsts)
        while waiting:
            number = waiting.pop()
            if number not in found:
                found[number] = True
                waiting.extend([behind for _, behind in self.steps(number)])
        return sorted(list(found))

    def most(self, number):
        """The most work from a side stand on, or `None` if it has no end."""
        if number in self._most:
            return self._most[number]
        # There is work in every ring, so what leads back to a side stand that is not told yet has no end.
        self._most[number] = None
        most = 0
        for step, behind in self.steps(number):
            further = self.most(behind)
            if further is None:
                self._ring = behind if self._ring is None else self._ring
                return None
            if step in WORK:
                further += 1
            if further > most:
                most = further
        self._most[number] = most
        return most

    def most_of(self, firsts):
        """The most work from some first side stands on, 0 if there are none, or `None` if it has no end."""
        found = [self.most(number) for number in firsts]
        return None if None in found else max(found, default=0)

    def longest_life(self, firsts):
        """The pair of a first side stand and of steps with the most work from it on, which has an end."""
        first = max(firsts, key=lambda number: self._most[number])
        at, steps = first, []
        while self._most[at] > 0:
            step, at = self._best_step(at)
            steps.append(step)
        return first, tuple(steps)

    def endless_life(self, firsts):
        """A first side stand, the steps from it to one on a ring, and those that lead back to that one."""
        self.most_of(firsts)
        first, steps = self._way([(number, number, ()) for number in firsts], self._ring)
        _, ring = self._way([(behind, None, (step,)) for step, behind in self.steps(self._ring)], self._ring)
        return first, steps, ring

    def _told(self, number):
        if number == BEHIND:
            return []
        if number == OUT:
            return [(("come", rank), self._side(comer, "back")) for rank, comer in enumerate(self._alone.comers)]
        if number < BEHIND:
            return [(WAKE, self._moved(number, "wake"))]
        found = [(END, BEHIND), *[(step, self._moved(number, step[0])) for step in WORK[1:]]]
        return [(BELL, self._side(behind, self._alone.after(number, "lost")[1]))
                for behind in self._alone.behind_loss(number)] + found

    def _moved(self, number, move):
        behind, place = self._alone.after(number, move)
        return self._side(behind, place)

    def _side(self, number, place):
        """The side stand of a task with this part, which by this has entered a queue at a place, or not."""
        if not READY <= number < RUNS:
            return number
        level = (number - READY) >> 2
        return number if level < self._level or (level == self._level and place == "front") else BEHIND

    def _best_step(self, number):
        """The first step after which there is as much work as there can be, and what is behind it."""
        most = self._most[number]
        return [(step, behind) for step, behind in self.steps(number)
                if self._most[behind] + (1 if step in WORK else 0) == most][0]

    def _way(self, starts, end):
        """The pair of the first side stand and of the steps, as few as possible, of a life that leads to an end.

        A start is a triple of what it leads to, its first side stand, and its steps so far.
        """
        seen = {}
        waiting = list(starts)
        while end not in seen:
            at, first, steps = waiting.pop(0)
            if at not in seen:
                seen[at] = (first, steps)
                waiting.extend([(behind, first, (*steps, step)) for step, behind in self.steps(at)])
        return seen[end]
