"""A desk that keeps books, and processors that follow them."""

from twoandabell.book.checks import check_book, check_books
from twoandabell.desk.moments import DeskMoment
from twoandabell.desk.names import is_name
from twoandabell.errors import InvalidOperation, Parted, TooMany, UnknownName
from twoandabell.pair.joints import alike, parting_load
from twoandabell.run.histories import Trial, redo_steps, undo_steps
from twoandabell.run.processors import Processor


class Desk:
    """Books and processors under names, each of which is used for one of both; each processor follows a book."""

    MAX_NAMES = 8

    def __init__(self):
        self._now = DeskMoment({}, {}, {})
        self._undone = ()

    def put(self, name, book):
        """Keep a new book under a name."""
        self._check_new(name)
        check_book(book)
        self._check_many()
        self._enter_log(self._now.with_book("put", name, book))

    def start(self, name, book):
        """Keep a new processor under a name; it follows the book with the name `book`."""
        self._check_new(name)
        processor = Processor(self.book_of(book))
        self._check_many()
        self._enter_log(self._now.with_processor("start", name, processor, book))

    def drop(self, name):
        """Forget a processor, or a book that none follows."""
        _check_known(name, self._now.names)
        if self._followers(name):
            raise InvalidOperation("a processor follows this book")
        self._enter_log(self._now.without_name("drop", name))

    def do(self, name, load):
        """Do the ticks of a load with their comings on a processor, and return their chart."""
        processor = self.processor_of(name)
        told = processor.do(load)
        self._enter_log(self._now.with_processor("do", name, processor, self._now.follows[name]))
        return told

    def adopt(self, name, book):
        """Let a book that is alike take the place of another one, and return the names of those that follow it."""
        own = self.book_of(name)
        check_books(own, book)
        load = parting_load(own, book)
        if load is not None:
            raise Parted(load)
        followers = self._followers(name)
        works = dict(self._now.works)
        for follower in followers:
            works[follower] = _by_book(book, works[follower])
        self._enter_log(self._now.with_book("adopt", name, book).with_works(works))
        return followers

    def book_of(self, name):
        """The book with a name."""
        _check_known(name, self._now.book_names)
        return self._now.shelf[name]

    def processor_of(self, name):
        """A twin of the processor with a name."""
        _check_known(name, self._now.work_names)
        return self._now.works[name].twin()

    def followed_by(self, name):
        """The name of the book that a processor follows."""
        _check_known(name, self._now.work_names)
        return self._now.follows[name]

    @property
    def books(self):
        """The ascending tuple of the names of the books."""
        return self._now.book_names

    @property
    def processors(self):
        """The ascending tuple of the names of the processors."""
        return self._now.work_names

    def kinds(self):
        """The ascending tuple of the ascending tuples of the names of books that are alike."""
        found = []
        for name in self._now.book_names:
            same = [kind for kind in found if self._are_alike(kind[0], name)][:1]
            if same:
                same[0].append(name)
            else:
                found.append([name])
        return tuple([tuple(kind) for kind in found])

    @property
    def log(self):
        """The tuple of the steps in effect, pairs of a word and a name."""
        return self._now.calls()

    def undo(self, *, many=1):
        """Take back the last steps, and return the length of the log."""
        return undo_steps(self, many)

    def redo(self, *, many=1):
        """Do again steps that were taken back, and return the length of the log."""
        return redo_steps(self, many)

    def trial(self):
        """A block of `with` that gives the desk, and behind which all of it is as before."""
        return Trial(self)

    def during(self, call):
        """What a function returns of the desk, in a block behind which all of it is as before."""
        with self.trial() as same:
            return call(same)

    def twin(self):
        """An independent copy, with its log and what was taken back."""
        copied = Desk()
        copied._now = self._now
        copied._undone = self._undone
        return copied

    def __eq__(self, other):
        if not isinstance(other, Desk):
            return False
        mine, others = self._now, other._now
        return mine.shelf == others.shelf and mine.works == others.works and mine.follows == others.follows

    def __len__(self):
        return len(self._now.names)

    def __contains__(self, x):
        return x in self._now.names

    def __iter__(self):
        return iter(self._now.names)

    def __str__(self):
        return f"desk of {len(self._now.book_names)} books, {len(self._now.work_names)} processors"

    def _check_new(self, name):
        if not is_name(name) or name in self._now.names:
            raise InvalidOperation("this is no name, or it is used")

    def _check_many(self):
        if len(self._now.names) >= self.MAX_NAMES:
            raise TooMany(self.MAX_NAMES)

    def _followers(self, name):
        """The ascending tuple of the names of the processors that follow the book with a name."""
        return tuple([follower for follower in self._now.work_names if self._now.follows[follower] == name])

    def _are_alike(self, name, other):
        """Whether the books with two names are alike."""
        one, two = self._now.shelf[name], self._now.shelf[other]
        return len(one.ranks) == len(two.ranks) and (one == two or alike(one, two))

    def _enter_log(self, moment):
        self._now = moment
        self._undone = ()


def _check_known(name, names):
    if name not in names:
        raise UnknownName(name)


def _by_book(book, processor):
    """A processor that has done by another book, which is alike, what this one has done."""
    copied = Processor(book)
    copied.do(processor.done)
    return copied
