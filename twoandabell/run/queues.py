"""Queues of tasks, one for each level."""

from twoandabell.base.words import MAX_LEVELS, is_between, is_number, is_place
from twoandabell.errors import InvalidNumber, InvalidQueue


class Queues:
    """So many queues, for the levels from 0 on, which are empty at first."""

    def __init__(self, many):
        if not is_between(many, 1, MAX_LEVELS):
            raise InvalidNumber(many)
        self._rows = [[] for _ in range(many)]

    def enter(self, task, level, place):
        """Put a task into a queue."""
        if not is_number(task) or task in self:
            raise InvalidQueue("this is no task that can enter")
        self._check_level(level)
        if not is_place(place):
            raise InvalidQueue("this is no place in a queue")
        if place == "front":
            self._rows[level].insert(0, task)
        else:
            self._rows[level].append(task)

    def leave(self, task):
        """Take a task out."""
        level = self.level_of(task)
        self._rows[level].remove(task)

    def pick(self):
        """Take out the first task of the best queue that is not empty, and return it, or `None`."""
        level = self.best
        if level is None:
            return None
        return self._rows[level].pop(0)

    def tasks(self):
        """The tuple of all tasks, the best level first."""
        return tuple([task for row in self._rows for task in row])

    def level_of(self, task):
        """The level in whose queue a task is."""
        self._check_task(task)
        return [level for level, row in enumerate(self._rows) if task in row][0]

    @property
    def best(self):
        """The best level whose queue is not empty, or `None`."""
        levels = [level for level, row in enumerate(self._rows) if row]
        return levels[0] if levels else None

    def is_ahead(self, task, other):
        """Whether a task comes before another one in the tuple of all tasks."""
        self._check_task(task)
        self._check_task(other)
        order = self.tasks()
        return order.index(task) < order.index(other)

    def twin(self):
        """An independent copy."""
        return queues_with(self._rows)

    def __getitem__(self, at):
        self._check_level(at)
        return tuple(self._rows[at])

    def __len__(self):
        return len(self.tasks())

    def __bool__(self):
        return any([len(row) > 0 for row in self._rows])

    def __contains__(self, x):
        return is_number(x) and x in self.tasks()

    def __iter__(self):
        raise TypeError("queues can't be iterated over")

    def __eq__(self, other):
        return isinstance(other, Queues) and self._rows == other._rows

    def __str__(self):
        return ", ".join([_row_text(level, row) for level, row in enumerate(self._rows)])

    def _check_level(self, level):
        if not is_between(level, 0, len(self._rows) - 1):
            raise InvalidNumber(level)

    def _check_task(self, task):
        if task not in self:
            raise InvalidQueue("this task is not there")


def queues_with(rows):
    """Queues with the tasks of some lists, one for each level."""
    queues = Queues(len(rows))
    queues._rows = [list(row) for row in rows]
    return queues


def _row_text(level, row):
    tasks = " ".join([str(task) for task in row]) if row else "none"
    return f"{level}: {tasks}"
