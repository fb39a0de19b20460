"""What two tasks come to by a book, move by move. Nothing is checked here: callers do it."""

from twoandabell.book.moves import after_move, comer_state

AWAY = ("away",)
ENDED = ("ended",)
BELL = ("bell",)
# Ascending, as moves are told.
TICKS = (("tick", "end"), ("tick", "on"), ("tick", "sleep"), ("tick", "way"))


class Turns:
    """The moves of stands by a book; what one task alone comes to is kept, for it is asked for again and again."""

    def __init__(self, book):
        self._book = book
        self._takes = [level.takes for level in book]
        self._comers = [("ready", *comer_state(book, rank)) for rank in range(len(book.ranks))]
        self._alone = {}

    def worker_at(self, stand):
        """The task that would work in a tick now, or `None`."""
        one, two, ahead = stand
        if one[0] == "runs":
            return 1 if self._is_better(two, one) else 0
        if two[0] == "runs":
            return 0 if self._is_better(one, two) else 1
        if ahead is not None:
            return ahead
        if one[0] == "ready":
            return 1 if two[0] == "ready" and two[1] < one[1] else 0
        return 1 if two[0] == "ready" else None

    def comings_at(self, stand):
        """The ascending list of the comings and wakings that are possible."""
        found = [("come", task, rank) for task in (0, 1) if stand[task] == AWAY for rank in range(len(self._comers))]
        return found + [("wake", task) for task in (0, 1) if stand[task][0] == "asleep"]

    def timed_at(self, stand):
        """The tuple of the bell, which is always possible, and of the ticks that are possible, ascending."""
        return (BELL,) if self.worker_at(stand) is None else (BELL, *TICKS)

    def moves_at(self, stand):
        """The ascending list of all moves that are possible."""
        return sorted([*self.comings_at(stand), *self.timed_at(stand)])

    def stands_behind(self, stand):
        """The list of the stands behind the comings and wakings that are possible, and then behind the timed moves."""
        return [self.stand_after(stand, move) for move in [*self.comings_at(stand), *self.timed_at(stand)]]

    def stand_after(self, stand, move):
        """The stand behind a move that is possible."""
        word = move[0]
        if word == "come":
            return _placed(stand, move[1], self._comers[move[2]], "back")
        if word == "wake":
            return self._moved(stand, move[1], word)
        runner = _runner_at(stand)
        if word == "bell":
            if runner is None or self._takes[stand[runner][1]] < 1:
                return stand
            return self._moved(stand, runner, "lost")
        worker = self.worker_at(stand)
        if runner is not None and runner != worker:
            stand = self._moved(stand, runner, "lost")
        return self._moved(stand, worker, move[1])

    def _is_better(self, one, two):
        """Whether a task is ready that takes another one away, which runs."""
        return one[0] == "ready" and one[1] < self._takes[two[1]]

    def _moved(self, stand, task, move):
        """The stand behind a move of one of the two alone, or behind its end."""
        if move == "end":
            return _placed(stand, task, ENDED, None)
        key = (stand[task], move)
        if key not in self._alone:
            self._alone[key] = after_move(self._book, stand[task], move)
        behind, place = self._alone[key]
        return _placed(stand, task, behind, place)


def _runner_at(stand):
    """The task that runs, or `None`."""
    if stand[0][0] == "runs":
        return 0
    return 1 if stand[1][0] == "runs" else None


def _placed(stand, task, part, place):
    """The stand in which a task has come to something else, and by this has entered a queue at a place, or not."""
    other = stand[1 - task]
    ahead = None
    if place is not None and other[0] == "ready" and other[1] == part[1]:
        ahead = task if place == "front" else 1 - task
    return (part, other, ahead) if task == 0 else (other, part, ahead)
