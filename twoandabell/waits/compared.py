"""The longest waits of two books compared, and changes by which waits get a bound."""

from twoandabell.book.checks import check_book
from twoandabell.errors import InvalidOperation
from twoandabell.waits.doors import Door
from twoandabell.waits.lengths import length_among, line_of


def compared_waits(book, other, level, place):
    """The tuple of pairs (n, word) that tells how the longest waits of two books compare from each n others on."""
    check_book(book)
    check_book(other)
    line, other_line = line_of(Door(book, level, place)), line_of(Door(other, level, place))
    found = []
    for others in range(1, _last_asked(line, other_line) + 1):
        word = _compared(length_among(line, others), length_among(other_line, others))
        if not found or found[-1][1] != word:
            found.append((others, word))
    return tuple(found)


def bounding_changes(book, level, place):
    """The ascending tuple of the pairs (key, value) such that waits at a door have a bound with this value there."""
    if line_of(Door(book, level, place)) is not None:
        raise InvalidOperation("waits at this door have a bound already")
    return tuple([(key, value) for key in book.entries() for value in book.values_for(*key)
                  if _is_bounded(_with_value(book, key, value), level, place)])


def _last_asked(line, other_line):
    """A number of others from which on two lines compare as they do there."""
    if line is None or other_line is None:
        return 1
    # Lines that are not parallel come nearer by at least 1 for each other task, so they have crossed by then.
    return abs(line[1] - other_line[1]) + 1


def _compared(length, other_length):
    """How a length compares to another one; `None` is greater than all numbers."""
    if length == other_length:
        return "equal"
    if length is None:
        return "greater"
    return "less" if other_length is None or length < other_length else "greater"


def _with_value(book, key, value):
    word, index = key
    return book.with_entry(word, index, value)


def _is_bounded(book, level, place):
    """Whether a book has a door, and waits have a bound there."""
    try:
        door = Door(book, level, place)
    except InvalidOperation:
        return False
    return line_of(door) is not None
