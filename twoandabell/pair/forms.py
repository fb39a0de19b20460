"""The forms of stands and of tables, read into numbers. Nothing is asked of books here but what their slices are."""

from twoandabell.book.alone import AWAY, ENDED, MODES, READY, RUNS
from twoandabell.pair.graphs import BITS, MASK

FIRST_JOINT = ((("away",), ("away",), None), (("away",), ("away",), None))
SINGLE_PARTS = (("away",), ("ended",))


class Forms:
    """The stands of a book by their form; what a value is read into is kept, for most stands come again and again."""

    def __init__(self, book):
        self._parts = {("away",): AWAY, ("ended",): ENDED}
        for level, entries in enumerate(book):
            self._add_level(4 * level, level, entries.ticks)
        self._read = {}

    def read_stand(self, value):
        """The number of a stand, with its kinds as further bits; `None` if the value is none."""
        # What is equal to a stand can have booleans in it, so its shape is looked at each time.
        if not _is_shaped(value):
            return None
        found = self._read.get(value)
        if found is None:
            found = self._number_for(*value)
            self._read[value] = found
        return found

    def _add_level(self, first, level, ticks):
        lefts = [None] if ticks is None else list(range(1, ticks + 1))
        for left in lefts:
            state = first + (left or 0)
            self._parts[("asleep", level, left)] = state
            self._parts[("ready", level, left)] = READY + state
            self._parts[("runs", level, left)] = RUNS + state
        if ticks is not None:
            self._parts[("asleep", level, 0)] = first

    def _number_for(self, one, two, ahead):
        left, right = self._parts.get(one), self._parts.get(two)
        if left is None or right is None or (left >= RUNS and right >= RUNS):
            return None
        if READY <= left < RUNS and left >> 2 == right >> 2:
            if ahead not in (0, 1):
                return None
        elif ahead is not None:
            return None
        return (_kind(left) << 2 | _kind(right)) << BITS | left << 7 | right << 1 | (ahead or 0)


def table_numbers(book, other, value):
    """The list of the numbers of a tuple of joint stands, if they are ascending; `None` if the value is none."""
    # Most values that are no table are told by this at once.
    if not isinstance(value, tuple) or FIRST_JOINT not in value:
        return None
    forms = Forms(book)
    other_forms = forms if book == other else Forms(other)
    numbers = []
    for joint in value:
        if not isinstance(joint, tuple) or len(joint) != 2:
            return None
        one, two = forms.read_stand(joint[0]), other_forms.read_stand(joint[1])
        # Both stands tell the same of each task, as far as it is away, is asleep, has ended, or none of these.
        if one is None or two is None or one >> BITS != two >> BITS:
            return None
        numbers.append((one & MASK) << BITS | two & MASK)
    return numbers if numbers == sorted(set(numbers)) else None


def stand_numbers(book, value):
    """The list of the numbers of a tuple of stands, if they are ascending; `None` if it is none."""
    forms = Forms(book)
    found = [forms.read_stand(stand) for stand in value]
    if None in found:
        return None
    numbers = [number & MASK for number in found]
    return numbers if numbers == sorted(set(numbers)) else None


def _is_shaped(value):
    """Whether a value is made of tuples, words, integers and `None` as a stand is, so that it can be a key."""
    if not isinstance(value, tuple) or len(value) != 3:
        return False
    one, two, ahead = value
    for part in (one, two):
        if not isinstance(part, tuple):
            return False
        if len(part) == 3:
            mode, level, left = part
            if level is True or level is False or left is True or left is False or mode not in MODES:
                return False
            if not isinstance(level, int) or (left is not None and not isinstance(left, int)):
                return False
        elif part not in SINGLE_PARTS:
            return False
    return ahead is None or (isinstance(ahead, int) and ahead is not True and ahead is not False)


def _kind(part):
    """What is the same in both parts of a joint stand of what they tell of a task."""
    if part < AWAY:
        return 0
    return 3 if part >= READY else part - AWAY + 1
