"""What becomes of own states and postures by a book. Nothing is checked here: callers do it."""

MODES = ("asleep", "ready", "runs")
QUEUE_WORDS = ("used", "wake", "way", "lost")


def comer_state(book, rank):
    """The own state of a comer of this rank."""
    level = book.ranks[rank]
    return (level, book.levels[level].ticks)


def worked_state(state):
    """The own state behind a tick of work."""
    level, left = state
    return (level, None if left is None else left - 1)


def entered(book, word, state):
    """The pair of the own state and the place with which a task enters by the entry with this word."""
    level, left = state
    if word == "used":
        target, place = book.levels[level].used
        rest = "new"
    else:
        target, place, rest = book.levels[level][word]
    return (target, _left_in(book.levels[target].ticks, rest, left)), place


def _left_in(ticks, rest, left):
    """The left number at a level with this slice, of a task that had another one left before."""
    if rest == "new" or ticks is None or left is None or left == 0:
        return ticks
    return min(left, ticks)


def possible_moves(book, posture):
    """The ascending tuple of the moves of a task alone that are possible."""
    mode, level, _ = posture
    if mode == "asleep":
        return ("wake",)
    if mode == "runs" and book.levels[level].takes >= 1:
        return ("lost", "on", "sleep", "way")
    return ("on", "sleep", "way")


def after_move(book, posture, move):
    """The pair of the next posture and the place at which the task enters a queue by this, or `None`."""
    _, level, left = posture
    if move in ("lost", "wake"):
        return _ready(book, move, (level, left))
    state = worked_state((level, left))
    if move == "sleep":
        return ("asleep", *state), None
    if move == "way":
        return _ready(book, "way", state)
    if state[1] == 0:
        return _ready(book, "used", state)
    return ("runs", *state), None


def _ready(book, word, state):
    behind, place = entered(book, word, state)
    return ("ready", *behind), place
