"""Joint stands of two books, and whether the books are alike."""

from twoandabell.base.words import is_number, is_row
from twoandabell.book.checks import check_books
from twoandabell.errors import InvalidNumber, InvalidStand
from twoandabell.pair.graphs import Graph
from twoandabell.pair.stands import FIRST, is_stand
from twoandabell.pair.turns import Turns
from twoandabell.pair.walks import Walk
from twoandabell.run.loads import is_parting

MAX_JOINTS = 20000


class Reach:
    """The reached joint stands of two books; it never changes."""

    def __init__(self, book, other):
        self._walk = _walk_of(book, other)
        self._books = (book, other)
        self._joints = self._walk.stands_of(list(self._walk.before))

    @property
    def joints(self):
        """The ascending tuple of the reached joint stands."""
        return self._joints

    @property
    def parted(self):
        """The ascending tuple of those at which different tasks would work."""
        return self._walk.stands_of(self._walk.apart)

    @property
    def table(self):
        """The table of just the reached joint stands, or `None`."""
        return None if self._walk.apart else self._joints

    def layer(self, many):
        """The ascending tuple of those that need just so many ticks and bells."""
        if not is_number(many):
            raise InvalidNumber(many)
        layers = self._walk.layers
        return self._walk.stands_of(layers[many]) if many < len(layers) else ()

    def __len__(self):
        return len(self._joints)

    def __contains__(self, x):
        return self._pair_of(x) is not None

    def __getitem__(self, at):
        pair = self._pair_of(at)
        if pair is None:
            raise InvalidStand("this is no reached joint stand")
        return self._walk.moves_to(pair)

    def __iter__(self):
        raise TypeError("reached joint stands can't be iterated over but as `joints`")

    def _pair_of(self, value):
        """The pair of numbers for which a value stands, or `None`."""
        book, other = self._books
        if not is_row(value, 2) or not is_stand(book, value[0]) or not is_stand(other, value[1]):
            return None
        numbers, others = self._walk.one.numbers, self._walk.other.numbers
        pair = (numbers.get(value[0]), others.get(value[1]))
        return pair if pair in self._walk.before else None


def alike(book, other):
    """Whether two books part at no load."""
    return not _walk_of(book, other).apart


def parting_load(book, other):
    """A load of two tasks, as short as any, at whose last tick two books part, or `None`."""
    return _walk_of(book, other).shortest_load()


def paper(book, other):
    """A paper that tells whether two books are alike: with a table, or with a load at whose last tick they part."""
    return _walk_of(book, other).shortest_paper()


def is_table(book, other, value):
    """Whether the value is a table of joint stands with which two books are alike."""
    check_books(book, other)
    if not isinstance(value, tuple) or not all([_is_joint(book, other, joint) for joint in value]):
        return False
    if not all([value[index] < value[index + 1] for index in range(len(value) - 1)]):
        return False
    known = {joint: True for joint in value}
    return (FIRST, FIRST) in known and _is_closed(Turns(book), Turns(other), known)


def is_paper(book, other, value):
    """Whether the value is a paper that tells whether two books are alike."""
    check_books(book, other)
    if not is_row(value, 2):
        return False
    if value[0] == "alike":
        return is_table(book, other, value[1])
    return value[0] == "parting" and is_parting(book, other, value[1])


def _walk_of(book, other):
    check_books(book, other)
    return Walk(Graph(book), Graph(other), MAX_JOINTS)


def _is_joint(book, other, value):
    """Whether the value has the form of a joint stand, reached or not."""
    if not is_row(value, 2) or not is_stand(book, value[0]) or not is_stand(other, value[1]):
        return False
    return all([_kind(value[0][task]) == _kind(value[1][task]) for task in (0, 1)])


def _kind(part):
    """What is the same in both parts of a joint stand of what it tells of a task."""
    return "there" if part[0] in ("ready", "runs") else part[0]


def _is_closed(turns, others, known):
    """Whether at each of some joint stands the same task would work, and each move leads to one of them."""
    told, others_told = {}, {}
    for one, two in known:
        if one not in told:
            told[one] = (turns.worker_at(one), turns.stands_behind(one))
        if two not in others_told:
            others_told[two] = (others.worker_at(two), others.stands_behind(two))
        worker, behind = told[one]
        other_worker, others_behind = others_told[two]
        # The same moves are possible at both stands of a joint one, and are told in the same order.
        if worker != other_worker or not all([near in known for near in zip(behind, others_behind)]):
            return False
    return True
