"""What an object has come to behind each of its steps, and how it is put back.

The object keeps its moment as `_now`, and as `_undone` the moments that were undone, the last of which is done again
first. Moments never change, so that objects can share them.
"""

from twoandabell.base.words import is_number
from twoandabell.errors import InvalidNumber, NothingToUndo


class Moment:
    """What is so behind a step, whose text is kept as `call`, and behind those before it."""

    def __init__(self, before, call):
        self.before = before
        self.call = call
        self.length = 0 if before is None else before.length + 1

    def all_behind(self, many):
        """The list of this moment and those before it, as many as that, this one first."""
        found = []
        moment = self
        for _ in range(many):
            found.append(moment)
            moment = moment.before
        return found

    def calls(self):
        """The tuple of the steps that led to this moment."""
        return tuple([moment.call for moment in self.all_behind(self.length)[::-1]])


class Trial:
    """A block of `with` behind which an object is as before."""

    def __init__(self, held):
        self._held = held
        self._kept = None

    def __enter__(self):
        # A trial can be entered again inside its own block, so what is kept further out stays there.
        self._kept = Kept(self._held._now, self._held._undone, self._kept)
        return self._held

    def __exit__(self, kind, value, trace):
        held = self._held
        held._now = self._kept.now
        held._undone = self._kept.undone
        self._kept = self._kept.outer


class Kept:
    """What a block of `with` puts back, and what one around it does."""

    def __init__(self, now, undone, outer):
        self.now = now
        self.undone = undone
        self.outer = outer


def undo_steps(held, many):
    """Put an object back as before its last steps, and return the length of its log."""
    if not is_number(many):
        raise InvalidNumber(many)
    if many > held._now.length:
        raise NothingToUndo(many)
    undone = held._now.all_behind(many)
    if undone:
        held._now = undone[-1].before
        held._undone = (*held._undone, *undone)
    return held._now.length


def redo_steps(held, many):
    """Put an object back as behind steps that were undone, and return the length of its log."""
    if not is_number(many):
        raise InvalidNumber(many)
    left = len(held._undone) - many
    if left < 0:
        raise NothingToUndo(many)
    if many > 0:
        held._now = held._undone[left]
        held._undone = held._undone[:left]
    return held._now.length
