"""What a desk has come to behind each of its steps."""

from twoandabell.run.histories import Moment


class DeskMoment(Moment):
    """The books and the processors of a desk behind a step; it never changes.

    `shelf` has the books by their names, `works` the processors, and `follows` the names of the books these follow.
    """

    def __init__(self, shelf, works, follows, before=None, call=None):
        super().__init__(before, call)
        self.shelf = shelf
        self.works = works
        self.follows = follows
        self.book_names = tuple(sorted(list(shelf)))
        self.work_names = tuple(sorted(list(works)))
        self.names = tuple(sorted([*shelf, *works]))

    def with_book(self, word, name, book):
        """The moment behind a step by which a name gets a book, a new one or in the place of another one."""
        return DeskMoment(_with(self.shelf, name, book), self.works, self.follows, self, (word, name))

    def with_processor(self, word, name, processor, book_name):
        """The moment behind a step by which a name gets a processor that follows the book with a name."""
        works, follows = _with(self.works, name, processor), _with(self.follows, name, book_name)
        return DeskMoment(self.shelf, works, follows, self, (word, name))

    def with_works(self, works):
        """The moment behind the same step, but with other processors."""
        return DeskMoment(self.shelf, works, self.follows, self.before, self.call)

    def without_name(self, word, name):
        """The moment behind a step by which a name is used no longer."""
        rows = [_without(rows, name) for rows in (self.shelf, self.works, self.follows)]
        return DeskMoment(rows[0], rows[1], rows[2], self, (word, name))


def _with(rows, name, value):
    """A copy of a dict in which a name has this value."""
    copied = dict(rows)
    copied[name] = value
    return copied


def _without(rows, name):
    """A copy of a dict without a name."""
    return {own: value for own, value in rows.items() if own != name}
