"""The errors of the package."""


class BellError(ValueError):
    """The base of most errors of the package."""


class InvalidLevel(BellError):
    """A level that can't be."""


class InvalidBook(BellError):
    """A value that is no book, or no book that fits."""


class InvalidState(BellError):
    """A value that is no own state or posture of a book."""


class InvalidQueue(BellError):
    """A task or a place that does not fit queues."""


class InvalidLoad(BellError):
    """A value that is no load, or no load that fits."""


class InvalidStand(BellError):
    """A value that is no stand, or no stand that fits."""


class InvalidOperation(BellError):
    """A call that is not possible."""


class ParseError(BellError):
    """A value that is not the text of anything."""


# The messages below leave out what an error is made with: it can be anything, and need not have a text.


class InvalidNumber(BellError):
    """A number that does not fit, kept as `number`."""

    def __init__(self, number):
        super().__init__("this is no number that fits here")
        self.number = number


class NothingToUndo(BellError):
    """More steps than can be taken back or done again, kept as `many`."""

    def __init__(self, many):
        super().__init__("there are not so many steps")
        self.many = many


class Stopped(BellError):
    """A coming that is not possible; the index of its tick is kept as `index`."""

    def __init__(self, index):
        super().__init__("a coming of this tick is not possible")
        self.index = index


class Parted(BellError):
    """Two books that are not alike; a load at which they part is kept as `load`."""

    def __init__(self, load):
        super().__init__("the books part")
        self.load = load


class UnknownName(LookupError):
    """A word or a name that does not stand for anything, kept as `word`."""

    def __init__(self, word):
        super().__init__("this word stands for nothing here")
        self.word = word


class TooMany(OverflowError):
    """More than is allowed; the most that is allowed is kept as `limit`."""

    def __init__(self, limit):
        super().__init__("this is more than is allowed")
        self.limit = limit
