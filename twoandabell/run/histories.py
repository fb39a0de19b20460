"""What a processor has come to behind each of its calls, and how it is put back."""


class Moment:
    """What is so behind a call; it never changes, so processors can share it."""

    def __init__(self, machine, before=None, call=None, told=None):
        self.machine = machine
        self.before = before
        self.call = call
        self.told = told
        self.length = 0
        self.ticks_done = 0
        self.waiting = 0
        if before is not None:
            is_tick = call[0] == "tick"
            self.length = before.length + 1
            self.ticks_done = before.ticks_done + 1 if is_tick else before.ticks_done
            self.waiting = 0 if is_tick else before.waiting + 1

    def all_behind(self, many):
        """The list of this moment and those before it, as many as that, this one first."""
        found = []
        moment = self
        for _ in range(many):
            found.append(moment)
            moment = moment.before
        return found


class Trial:
    """A block of `with` behind which a processor is as before."""

    def __init__(self, held):
        self._held = held
        self._kept = None

    def __enter__(self):
        # A trial can be entered again inside its own block, so what is kept further out stays there.
        self._kept = Kept(self._held._now, self._held._undone, self._kept)
        return self._held

    def __exit__(self, kind, value, trace):
        held = self._held
        held._now = self._kept.now
        held._undone = self._kept.undone
        self._kept = self._kept.outer


class Kept:
    """What a block of `with` puts back, and what one around it does."""

    def __init__(self, now, undone, outer):
        self.now = now
        self.undone = undone
        self.outer = outer
