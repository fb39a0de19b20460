"""Processors, on which tasks come, wake and work call by call."""

from twoandabell.base.words import is_between, is_number, is_word
from twoandabell.book.checks import check_book
from twoandabell.errors import InvalidLoad, InvalidNumber, InvalidOperation, TooMany
from twoandabell.run.histories import Moment, Trial, redo_steps, undo_steps
from twoandabell.run.loads import MAX_COMINGS, MAX_LOAD, MAX_TASKS, is_load
from twoandabell.run.machines import Machine


class Call(Moment):
    """What a processor has come to behind a call: its machine, what the chart tells, and how much has been done."""

    def __init__(self, machine, before=None, call=None, told=None):
        super().__init__(before, call)
        self.machine = machine
        self.told = told
        self.ticks_done = 0
        self.waiting = 0
        if before is not None:
            is_tick = call[0] == "tick"
            self.ticks_done = before.ticks_done + 1 if is_tick else before.ticks_done
            self.waiting = 0 if is_tick else before.waiting + 1


class Processor:
    """A processor that works by a book, without tasks at first; the comings of a tick are calls ahead of it."""

    def __init__(self, book):
        check_book(book)
        self._book = book
        self._now = Call(Machine(book))
        self._undone = ()

    def come(self, rank):
        """Let a task of this rank come, and return its number."""
        if not is_between(rank, 0, len(self._book.ranks) - 1):
            raise InvalidNumber(rank)
        task = len(self)
        if task >= MAX_TASKS:
            raise TooMany(MAX_TASKS)
        self._let_in(("come", rank))
        return task

    def wake_up(self, task):
        """Let a task that is asleep wake."""
        if not is_number(task) or not self._now.machine.is_possible(("wake", task)):
            raise InvalidOperation("this is no task that is asleep")
        self._let_in(("wake", task))

    def tick(self, word):
        """Do a tick without further comings, and return what the chart tells of it."""
        if not is_word(word):
            raise InvalidOperation("this is no word of a tick")
        if self._now.ticks_done >= MAX_LOAD:
            raise TooMany(MAX_LOAD)
        machine = self._now.machine.twin()
        told = machine.do_tick(word)
        self._enter_log(machine, ("tick", word), told)
        return told

    def bell(self):
        """Do a tick with the word `"bell"`."""
        return self.tick("bell")

    def do(self, load):
        """Do the ticks of a load with their comings, or nothing by an error, and return their chart."""
        if not is_load(load):
            raise InvalidLoad("this has not the form of a load")
        draft = self.twin()
        told = []
        for comings, word in load:
            for kind, number in comings:
                if kind == "come":
                    draft.come(number)
                else:
                    draft.wake_up(number)
            told.append(draft.tick(word))
        self._now = draft._now
        self._undone = draft._undone
        return tuple(told)

    @property
    def book(self):
        """The book by which it works."""
        return self._book

    @property
    def picture(self):
        """The tuple of what each task that has come is at: its posture, or that it has ended."""
        return self._now.machine.all_postures()

    @property
    def runner(self):
        """The task that runs, or `None`."""
        return self._now.machine.running()

    @property
    def next_one(self):
        """The task that would work in a tick now, or `None`."""
        return self._now.machine.worker()

    @property
    def chart(self):
        """What the chart tells of all ticks done."""
        return tuple([moment.told for moment in self._moments() if moment.call[0] == "tick"])

    @property
    def done(self):
        """The load of all ticks done."""
        ticks = []
        comings = []
        for moment in self._moments():
            if moment.call[0] == "tick":
                ticks.append((tuple(comings), moment.call[1]))
                comings = []
            else:
                comings.append(moment.call)
        return tuple(ticks)

    @property
    def log(self):
        """The tuple of the calls done."""
        return self._now.calls()

    def queues(self):
        """The queues of the ready tasks, one for each level of the book."""
        return self._now.machine.queues()

    def undo(self, *, many=1):
        """Put back all as before the last calls of the log, and return its length."""
        return undo_steps(self, many)

    def redo(self, *, many=1):
        """Put back all as behind calls that were undone, and return the length of the log."""
        return redo_steps(self, many)

    def trial(self):
        """A block of `with` that gives the processor, and behind which all of it is as before."""
        return Trial(self)

    def during(self, call):
        """What a function returns of the processor, in a block behind which all of it is as before."""
        with self.trial() as same:
            return call(same)

    def twin(self):
        """An independent copy, with its log and what was undone."""
        copied = Processor(self._book)
        copied._now = self._now
        copied._undone = self._undone
        return copied

    def __iadd__(self, other):
        self.come(other)
        return self

    def __len__(self):
        return len(self._now.machine.all_postures())

    def __getitem__(self, at):
        if not is_between(at, 0, len(self) - 1):
            raise InvalidNumber(at)
        return self._now.machine.all_postures()[at]

    def __contains__(self, x):
        return is_between(x, 0, len(self) - 1) and self._now.machine.all_postures()[x] != ("ended",)

    def __iter__(self):
        raise TypeError("a processor can't be iterated over")

    def __eq__(self, other):
        if not isinstance(other, Processor):
            return False
        # The pictures tell the levels of the ready tasks, so one order of all of them tells that of each queue.
        mine, others = self._now.machine, other._now.machine
        if self._book != other._book or mine.all_postures() != others.all_postures():
            return False
        return mine.order() == others.order()

    def __str__(self):
        ready = len(self._now.machine.order())
        return f"processor with {len(self)} tasks, {ready} ready"

    def _let_in(self, coming):
        if self._now.waiting >= MAX_COMINGS:
            raise TooMany(MAX_COMINGS)
        machine = self._now.machine.twin()
        machine.let_in(coming)
        self._enter_log(machine, coming, None)

    def _enter_log(self, machine, call, told):
        self._now = Call(machine, self._now, call, told)
        self._undone = ()

    def _moments(self):
        """The list of the moments behind the calls done, in their order."""
        return self._now.all_behind(self._now.length)[::-1]
