"""A machine: tasks that come, wake and work by a book. Nothing is checked here: callers do it."""

from twoandabell.book.moves import after_move, comer_state
from twoandabell.run.queues import Queues


class Machine:
    """The tasks that have come, what each of them is at, and the queues of the ready ones."""

    def __init__(self, book):
        self._book = book
        self._postures = []
        self._queues = Queues(len(book))
        self._runner = None

    def is_possible(self, coming):
        """Whether the rank of a comer is there, or a waker is asleep."""
        word, number = coming
        if word == "come":
            return number < len(self._book.ranks)
        return number < len(self._postures) and self._postures[number][0] == "asleep"

    def let_in(self, coming):
        """Let a task come or wake; this is possible."""
        word, number = coming
        if word == "wake":
            self._move(number, "wake")
            return
        level, left = comer_state(self._book, number)
        self._queues.enter(len(self._postures), level, "back")
        self._postures.append(("ready", level, left))

    def do_tick(self, word):
        """Do a tick behind its comings, and return what a chart tells of it."""
        if self.lost_by(word) is not None:
            self._move(self._runner, "lost")
            self._runner = None
        if word == "bell":
            return "bell"
        worker = self._queues.pick() if self._runner is None else self._runner
        if worker is not None:
            self._work(worker, word)
        return worker

    def all_postures(self):
        """The tuple of what each task that has come is at: its posture, or that it has ended."""
        return tuple(self._postures)

    def order(self):
        """The tuple of the ready tasks, the best level first."""
        return self._queues.tasks()

    def queues(self):
        """The queues of the ready tasks, which are those of the caller."""
        return self._queues.twin()

    def running(self):
        """The task that runs, or `None`."""
        return self._runner

    def lost_by(self, word):
        """The task that runs, if a tick with this word takes it away, and otherwise `None`."""
        if self._runner is None:
            return None
        level = self._postures[self._runner][1]
        takes = self._book.levels[level].takes
        if word == "bell":
            return self._runner if takes >= 1 else None
        best = self._queues.best
        return self._runner if best is not None and best < takes else None

    def worker(self):
        """The task that would work in a tick now, or `None`."""
        if self._runner is not None and self.lost_by("on") is None:
            return self._runner
        # Who is taken away enters at a level behind that of the best ready task, which so stays the best one.
        order = self._queues.tasks()
        return order[0] if order else None

    def twin(self):
        """An independent copy."""
        copied = Machine(self._book)
        copied._postures = list(self._postures)
        copied._queues = self._queues.twin()
        copied._runner = self._runner
        return copied

    def _work(self, task, word):
        """Let a task that is in no queue work a tick, and do what the word tells."""
        self._runner = None
        if word == "end":
            self._postures[task] = ("ended",)
            return
        self._move(task, word)
        if self._postures[task][0] == "runs":
            self._runner = task

    def _move(self, task, move):
        behind, place = after_move(self._book, self._postures[task], move)
        self._postures[task] = behind
        if place is not None:
            self._queues.enter(task, behind[1], place)
