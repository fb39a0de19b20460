"""A machine: tasks that come, wake and work by a book. Nothing is checked here: callers do it."""

from twoandabell.book.alone import AWAY, ENDED, READY, RUNS
from twoandabell.run.queues import queues_with

ENDED_PICTURE = ("ended",)


class Machine:
    """The tasks that have come, what each of them is at, and the queues of the ready ones.

    What a task is at is kept as a posture and as its number (book/alone.py).
    """

    def __init__(self, book):
        self._book = book
        self._alone = book.told_alone()
        self._takers = self._alone.takers
        self._kept = self._alone.kept
        self._numbers = []
        self._postures = []
        self._rows = [[] for _ in self._takers]
        self._runner = None

    def is_possible(self, coming):
        """Whether the rank of a comer is there, or a waker is asleep."""
        word, number = coming
        if word == "come":
            return number < len(self._alone.comers)
        return number < len(self._numbers) and self._numbers[number] < AWAY

    def let_in(self, coming):
        """Let a task come or wake; this is possible."""
        word, number = coming
        if word == "wake":
            self._move(number, "wake")
            return
        comer = self._alone.comers[number]
        self._rows[(comer - READY) >> 2].append(len(self._numbers))
        self._numbers.append(comer)
        self._postures.append(self._alone.part(comer))

    def let_all_in(self, comings):
        """Let the tasks of some comings come and wake, and return whether all of them could."""
        for coming in comings:
            word, number = coming
            if word == "wake" and number < len(self._numbers) and self._numbers[number] < AWAY:
                self._move(number, "wake")
            elif word == "come" and number < len(self._alone.comers):
                self.let_in(coming)
            else:
                return False
        return True

    def do_tick(self, word):
        """Do a tick behind its comings, and return what a chart tells of it."""
        worker = self._runner
        if worker is not None and self._takers[(self._numbers[worker] - RUNS) >> 2] and self._is_lost(worker, word):
            self._move(worker, "lost")
            worker = self._runner = None
        if word == "bell":
            return "bell"
        if worker is None:
            worker = self._picked()
            if worker is None:
                return None
        if word == "end":
            self._runner = None
            self._numbers[worker] = ENDED
            self._postures[worker] = ENDED_PICTURE
        else:
            self._runner = worker if self._move(worker, word) >= RUNS else None
        return worker

    def many_tasks(self):
        """The number of tasks that have come."""
        return len(self._numbers)

    def level_of(self, task):
        """The level of a task that has not ended."""
        return self._postures[task][1]

    def all_postures(self):
        """The tuple of what each task that has come is at: its posture, or that it has ended."""
        return tuple(self._postures)

    def order(self):
        """The tuple of the ready tasks, the best level first."""
        return tuple([task for row in self._rows for task in row])

    def queues(self):
        """The queues of the ready tasks, which are those of the caller."""
        return queues_with(self._rows)

    def running(self):
        """The task that runs, or `None`."""
        return self._runner

    def worker(self):
        """The task that would work in a tick now, or `None`."""
        if self._runner is not None and not self._is_lost(self._runner, "on"):
            return self._runner
        # Who is taken away enters at a level behind that of the best ready task, which so stays the best one.
        order = self.order()
        return order[0] if order else None

    def twin(self):
        """An independent copy."""
        copied = Machine(self._book)
        copied._numbers = list(self._numbers)
        copied._postures = list(self._postures)
        copied._rows = [list(row) for row in self._rows]
        copied._runner = self._runner
        return copied

    def _is_lost(self, task, word):
        """Whether a tick with this word takes a running task away."""
        takes = self._takers[(self._numbers[task] - RUNS) >> 2]
        if not takes or word == "bell":
            return takes > 0
        for row in self._rows[:takes]:
            if row:
                return True
        return False

    def _picked(self):
        """Take out the first task of the best queue that is not empty, and return it, or `None`."""
        for row in self._rows:
            if row:
                return row.pop(0)
        return None

    def _move(self, task, move):
        """Let a task that is in no queue make a move, and return the number of what it is at then."""
        key = (self._numbers[task], move)
        number, posture, place = self._kept.get(key) or self._alone.after_with_part(key)
        self._numbers[task] = number
        self._postures[task] = posture
        if place == "back":
            self._rows[(number - READY) >> 2].append(task)
        elif place is not None:
            self._rows[(number - READY) >> 2].insert(0, task)
        return number
