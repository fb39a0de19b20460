"""Joint stands of two books, and whether the books are alike."""

from twoandabell.base.words import is_number, is_row
from twoandabell.book.checks import check_books
from twoandabell.errors import InvalidNumber, InvalidStand
from twoandabell.pair.forms import table_numbers
from twoandabell.pair.graphs import BITS, FIRST_STAND, MASK, Graph, number_of_stand
from twoandabell.pair.stands import is_stand
from twoandabell.pair.walks import Walk
from twoandabell.run.loads import is_parting

MAX_JOINTS = 20000


class Reach:
    """The reached joint stands of two books; it never changes."""

    def __init__(self, book, other):
        self._walk = walk_of(book, other, whole=True)
        self._books = (book, other)
        self._joints = self._walk.stands_of(list(self._walk.before))
        self._parted = self._walk.stands_of_both(self._walk.apart)

    @property
    def joints(self):
        """The ascending tuple of the reached joint stands."""
        return self._joints

    @property
    def parted(self):
        """The ascending tuple of those at which different tasks would work."""
        return self._parted

    @property
    def table(self):
        """The table of just the reached joint stands, or `None`."""
        return None if self._parted else self._joints

    def layer(self, many):
        """The ascending tuple of those that need just so many ticks and bells."""
        if not is_number(many):
            raise InvalidNumber(many)
        layers = self._walk.layers
        return self._walk.stands_of_both(layers[many]) if many < len(layers) else ()

    def __len__(self):
        return len(self._joints)

    def __contains__(self, x):
        return self._number_of(x) is not None

    def __getitem__(self, at):
        number = self._number_of(at)
        if number is None:
            raise InvalidStand("this is no reached joint stand")
        return self._walk.moves_to(number)

    def __iter__(self):
        raise TypeError("reached joint stands can't be iterated over but as `joints`")

    def _number_of(self, value):
        """The number of the reached joint stand that a value is, or `None`."""
        book, other = self._books
        if not is_row(value, 2) or not is_stand(book, value[0]) or not is_stand(other, value[1]):
            return None
        number = number_of_stand(value[0]) << BITS | number_of_stand(value[1])
        return number if number in self._walk.before else None


def alike(book, other):
    """Whether two books part at no load."""
    return not walk_of(book, other).apart


def parting_load(book, other):
    """A load of two tasks, as short as any, at whose last tick two books part, or `None`."""
    return walk_of(book, other).shortest_load()


def paper(book, other):
    """A paper that tells whether two books are alike: with a table, or with a load at whose last tick they part."""
    return walk_of(book, other).shortest_paper()


def is_table(book, other, value):
    """Whether the value is a table of joint stands with which two books are alike."""
    check_books(book, other)
    numbers = table_numbers(book, other, value)
    if numbers is None:
        return False
    one, two = graphs_of(book, other)
    return _is_closed(one, two, numbers)


def is_paper(book, other, value):
    """Whether the value is a paper that tells whether two books are alike."""
    check_books(book, other)
    if not is_row(value, 2):
        return False
    if value[0] == "alike":
        return is_table(book, other, value[1])
    return value[0] == "parting" and is_parting(book, other, value[1])


def graphs_of(book, other):
    """The pair of the graphs of two books."""
    graph = Graph(book)
    # Equal books share one, so that nothing is told twice.
    return graph, graph if book == other else Graph(other)


def walk_of(book, other, *, whole=False):
    """The walk through the joint stands of two books, all of them or as many as tell whether they part."""
    check_books(book, other)
    one, two = graphs_of(book, other)
    return Walk(one, two, MAX_JOINTS, whole=whole)


def _is_closed(one, other, numbers):
    """Whether some joint stands have the first one, at each the same task would work, and each move stays in them."""
    known = set(numbers)
    if (FIRST_STAND << BITS | FIRST_STAND) not in known:
        return False
    rows, others = one.rows, other.rows
    for number in numbers:
        left, right = number >> BITS, number & MASK
        worker, comings, timed = rows.get(left) or one.row(left)
        other_worker, other_comings, other_timed = others.get(right) or other.row(right)
        if worker != other_worker:
            return False
        # The same moves are possible at both stands of a joint one, and are told in the same order.
        for near, other_near in zip([*comings, *timed], [*other_comings, *other_timed]):
            if near << BITS | other_near not in known:
                return False
    return True
