"""A machine: tasks that come, wake and work by a book. Nothing is checked here: callers do it."""

from twoandabell.book.moves import after_move, comer_state
from twoandabell.run.queues import Queues


class Machine:
    """The tasks that have come, what each of them is at, and the queues of the ready ones."""

    def __init__(self, book):
        self._book = book
        self._postures = []
        self._queues = Queues(len(book))
        self._runner = None

    def is_possible(self, coming):
        """Whether the rank of a comer is there, or a waker is asleep."""
        word, number = coming
        if word == "come":
            return number < len(self._book.ranks)
        return number < len(self._postures) and self._postures[number][0] == "asleep"

    def let_in(self, coming):
        """Let a task come or wake; this is possible."""
        word, number = coming
        if word == "wake":
            self._move(number, "wake")
            return
        level, left = comer_state(self._book, number)
        self._queues.enter(len(self._postures), level, "back")
        self._postures.append(("ready", level, left))

    def do_tick(self, word):
        """Do a tick behind its comings, and return what a chart tells of it."""
        if self._is_taken_away(word):
            self._move(self._runner, "lost")
            self._runner = None
        if word == "bell":
            return "bell"
        worker = self._queues.pick() if self._runner is None else self._runner
        if worker is not None:
            self._work(worker, word)
        return worker

    def all_postures(self):
        """The tuple of what each task that has come is at: its posture, or that it has ended."""
        return tuple(self._postures)

    def _is_taken_away(self, word):
        """Whether a task runs, and a tick with this word takes it away."""
        if self._runner is None:
            return False
        level = self._postures[self._runner][1]
        takes = self._book.levels[level].takes
        if word == "bell":
            return takes >= 1
        best = self._queues.best
        return best is not None and best < takes

    def _work(self, task, word):
        """Let a task that is in no queue work a tick, and do what the word tells."""
        self._runner = None
        if word == "end":
            self._postures[task] = ("ended",)
            return
        self._move(task, word)
        if self._postures[task][0] == "runs":
            self._runner = task

    def _move(self, task, move):
        behind, place = after_move(self._book, self._postures[task], move)
        self._postures[task] = behind
        if place is not None:
            self._queues.enter(task, behind[1], place)
