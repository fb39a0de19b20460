"""Numbers, places, rests, words, and the forms of entries."""

from twoandabell.errors import UnknownName

MAX_LEVELS = 3
MAX_RANKS = 3
MAX_SLICE = 3

# The least integer with more than forty digits.
NUMBER_LIMIT = 10 ** 40

# These four are ascending, for tuples of values and of keys are built from them in this order.
PLACES = ("back", "front")
RESTS = ("kept", "new")
ENTRY_WORDS = ("come", "lost", "takes", "ticks", "used", "wake", "way")
ASCENDING_LEVEL_WORDS = ("lost", "takes", "ticks", "used", "wake", "way")

TICK_WORDS = ("on", "sleep", "way", "end", "bell")

# In the order in which the text of a level tells them.
LEVEL_WORDS = ("ticks", "used", "wake", "way", "lost", "takes")


def is_number(value):
    """Whether the value is an integer of at least 0 and of at most forty digits."""
    return isinstance(value, int) and not isinstance(value, bool) and 0 <= value < NUMBER_LIMIT


def is_between(value, least, most):
    """Whether the value is an integer from `least` to `most`, `least` being at least 0."""
    return is_number(value) and least <= value <= most


def is_row(value, many):
    """Whether the value is a tuple of just so many values."""
    return isinstance(value, tuple) and len(value) == many


def is_place(value):
    """Whether the value is a place in a queue."""
    return value in PLACES


def is_rest(value):
    """Whether the value tells what becomes of the left number of a task that enters a queue."""
    return value in RESTS


def is_word(value):
    """Whether the value is the word of a tick."""
    return value in TICK_WORDS


def is_entry(word, value):
    """Whether the value has the form of an entry with this word, whatever levels there are."""
    if word == "ticks":
        return value is None or is_between(value, 1, MAX_SLICE)
    if word == "used":
        return is_row(value, 2) and _is_level(value[0]) and is_place(value[1])
    if word in ("wake", "way", "lost"):
        return is_row(value, 3) and _is_level(value[0]) and is_place(value[1]) and is_rest(value[2])
    if word in ("takes", "come"):
        return _is_level(value)
    raise UnknownName(word)


def _is_level(value):
    return is_between(value, 0, MAX_LEVELS - 1)
