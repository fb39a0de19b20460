"""How many joint stands two books can have at most, told from what one task alone comes to by both."""

from twoandabell.book.alone import AWAY, READY, RUNS

WORDS = ("on", "sleep", "way")


def are_at_most(alone, other, limit):
    """Whether the reached joint stands of two books are for certain not more than a limit."""
    return _most(_sizes_by_form(alone, other)) <= limit or _most(_sizes_by_moves(alone, other)) <= limit


def _most(sizes):
    """The most joint stands of two tasks, told from the numbers of pairs of a part by one book and one by the other.

    These are all pairs that a task can come to, those with a ready part by the one book, by the other one, and by both.
    If both tasks are ready by a book, either can be ahead there: this doubles the joint stands for each of the books.
    """
    return sum([many * many for many in sizes])


def _sizes_by_form(alone, other):
    """What `_most` asks for, if all parts of a kind went together; these are told by the slices alone."""
    ready, running = alone.sizes()
    other_ready, other_running = other.sizes()
    # There are as many asleep parts as ready ones, and a task can be away or have ended.
    pairs = ready * other_ready + (ready + running) * (other_ready + other_running) + 2
    return pairs, ready * (other_ready + other_running), (ready + running) * other_ready, ready * other_ready


def _sizes_by_moves(alone, other):
    """What `_most` asks for, of the pairs to which a task comes that is taken away by either book, or by both."""
    found = {}
    waiting = list(zip(alone.comers, other.comers))
    while waiting:
        pair = waiting.pop()
        if pair not in found:
            found[pair] = True
            waiting.extend(_behind(alone, other, pair))
    ready = [READY <= one < RUNS for one, _ in found]
    other_ready = [READY <= two < RUNS for _, two in found]
    both = [one and two for one, two in zip(ready, other_ready)]
    return len(found) + 2, ready.count(True), other_ready.count(True), both.count(True)


def _behind(alone, other, pair):
    """The pairs of parts behind a pair of parts of a task."""
    one, two = pair
    if one < AWAY:
        return [(alone.after(one, "wake")[0], other.after(two, "wake")[0])]
    found = [(alone.after(one, word)[0], other.after(two, word)[0]) for word in WORDS]
    lost = [one, *alone.behind_loss(one)]
    others = [two, *other.behind_loss(two)]
    return found + [(left, right) for left in lost for right in others]
