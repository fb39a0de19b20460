"""How many joint stands two books can have at most, told from what one task alone comes to by both."""

from twoandabell.book.alone import AWAY, READY, RUNS

WORDS = ("on", "sleep", "way")


def are_at_most(alone, other, limit):
    """Whether the reached joint stands of two books are for certain not more than a limit."""
    return _most_by_form(alone, other) <= limit or _most_of(_pairs_by_moves(alone, other)) <= limit


def _most_by_form(alone, other):
    """The most joint stands, told by the slices alone, as if all parts of a kind went together.

    If both tasks are ready by a book, either can be ahead there: this doubles them for each of the books.
    """
    ready, running = alone.sizes()
    other_ready, other_running = other.sizes()
    # There are as many asleep parts as ready ones, and a task can be away or have ended.
    pairs = ready * other_ready + (ready + running) * (other_ready + other_running) + 2
    ties = (ready * (other_ready + other_running), (ready + running) * other_ready, ready * other_ready)
    return pairs * pairs + sum([tie * tie for tie in ties])


def _most_of(pairs):
    """The most joint stands, told from the pairs of a part by one book and a part by the other to which a task comes.

    Each pair of a task can stand beside each one of the other, but both tasks do not run by one book; and where both
    are ready at one level by a book, either can be ahead.
    """
    many = len(pairs) + 2
    runs = [one >= RUNS for one, _ in pairs].count(True)
    other_runs = [two >= RUNS for _, two in pairs].count(True)
    both_run = [one >= RUNS and two >= RUNS for one, two in pairs].count(True)
    ties = {}
    for one, two in pairs:
        level, other_level = _ready_level(one), _ready_level(two)
        for tie in ((level, None), (None, other_level), (level, other_level)):
            ties[tie] = ties.get(tie, 0) + 1
    # Each tie is told once: by the one book, by the other one, and by both.
    told = [count * count for (level, other_level), count in ties.items() if level != 0 and other_level != 0]
    return many * many + sum(told) - runs * runs - other_runs * other_runs + both_run * both_run


def _ready_level(part):
    """A number that is equal for ready parts of one level; 0 for other parts."""
    return part >> 2 if READY <= part < RUNS else 0


def _pairs_by_moves(alone, other):
    """The list of the pairs of parts to which a task comes that is taken away by either book, or by both."""
    found = {}
    waiting = list(zip(alone.comers, other.comers))
    while waiting:
        pair = waiting.pop()
        if pair not in found:
            found[pair] = True
            waiting.extend(_behind(alone, other, pair))
    return list(found)


def _behind(alone, other, pair):
    """The pairs of parts behind a pair of parts of a task."""
    one, two = pair
    if one < AWAY:
        return [(alone.after(one, "wake")[0], other.after(two, "wake")[0])]
    found = [(alone.after(one, word)[0], other.after(two, word)[0]) for word in WORDS]
    lost = [one, *alone.behind_loss(one)]
    others = [two, *other.behind_loss(two)]
    return found + [(left, right) for left in lost for right in others]
