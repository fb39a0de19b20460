"""A shell: lines that work on a desk."""

from twoandabell.base.words import is_place
from twoandabell.change.entries import idle_keys
from twoandabell.desk.desk import Desk
from twoandabell.desk.names import is_name
from twoandabell.errors import InvalidOperation
from twoandabell.pair.joints import parting_load
from twoandabell.text.books import read_book, write_book
from twoandabell.text.loads import read_load, write_chart
from twoandabell.text.numbers import read_number
from twoandabell.waits.lengths import longest_wait
from twoandabell.waits.ranks import lead

# What stands behind the first word of each line, in order; a text is all that is left of the line.
FORMS = {
    "put": ("name", "text"),
    "start": ("name", "name"),
    "drop": ("name",),
    "adopt": ("name", "text"),
    "do": ("name", "text"),
    "undo": ("number",),
    "redo": ("number",),
    "names": (),
    "show": ("name",),
    "alike": ("name", "name"),
    "idle": ("name",),
    "wait": ("name", "number", "place", "number"),
    "lead": ("name", "number", "number"),
}
MOST_DIGITS = 10
DONE = "done"
YES = "yes"
NOTHING = "-"
NONE = "none"
# What stands in a line for a newline of the text of a book.
NEWLINE = " ; "


def _read_line(line):
    """The first word of a line and the values behind it, texts as they stand there; `None` if the value is no line."""
    if not isinstance(line, str) or "\n" in line:
        return None
    form = FORMS.get(line.split(" ", 1)[0])
    if form is None:
        return None
    word, *parts = line.split(" ", len(form)) if "text" in form else line.split(" ")
    if len(parts) != len(form):
        return None
    values = [_read_part(kind, part) for kind, part in zip(form, parts)]
    return None if None in values else [word, *values]


def _read_part(kind, text):
    """The value of a part of a line, or `None` if it is none of this kind."""
    if kind == "number":
        return read_number(text, MOST_DIGITS)
    if kind == "text":
        return text if text else None
    fits = is_name(text) if kind == "name" else is_place(text)
    return text if fits else None


def _read_book(text):
    return read_book(text.replace(NEWLINE, "\n"))


def _put(desk, name, text):
    desk.put(name, _read_book(text))
    return DONE


def _start(desk, name, book):
    desk.start(name, book)
    return DONE


def _drop(desk, name):
    desk.drop(name)
    return DONE


def _adopt(desk, name, text):
    desk.adopt(name, _read_book(text))
    return DONE


def _do(desk, name, text):
    return write_chart(desk.do(name, read_load(text)))


def _undo(desk, many):
    return str(desk.undo(many=many))


def _redo(desk, many):
    return str(desk.redo(many=many))


def _names(desk):
    return " ".join(list(desk)) if len(desk) > 0 else NOTHING


def _show(desk, name):
    if name in desk.books:
        return write_book(desk.book_of(name)).replace("\n", NEWLINE)
    return write_chart(desk.processor_of(name).chart)


def _alike(desk, name, other):
    load = parting_load(desk.book_of(name), desk.book_of(other))
    return YES if load is None else str(len(load))


def _idle(desk, name):
    return ", ".join([f"{word} {index}" for word, index in idle_keys(desk.book_of(name))])


def _wait(desk, name, level, place, many):
    return _number_text(longest_wait(desk.book_of(name), level, place, many))


def _lead(desk, name, rank, other):
    return _number_text(lead(desk.book_of(name), rank, other))


def _number_text(number):
    return NONE if number is None else str(number)


ACTIONS = {
    "put": _put, "start": _start, "drop": _drop, "adopt": _adopt, "do": _do, "undo": _undo, "redo": _redo,
    "names": _names, "show": _show, "alike": _alike, "idle": _idle, "wait": _wait, "lead": _lead,
}


class Shell:
    """A shell that works on a desk, which others can change as well."""

    def __init__(self, desk):
        if not isinstance(desk, Desk):
            raise InvalidOperation("this is no desk")
        self._desk = desk
        self._lines = ()

    @property
    def desk(self):
        """The desk itself."""
        return self._desk

    @property
    def log(self):
        """The tuple of the lines that were done."""
        return self._lines

    def do(self, line):
        """Do a line, and return its result."""
        words = _read_line(line)
        if words is None:
            raise InvalidOperation("this is no line")
        word, *arguments = words
        action = ACTIONS[word]
        told = action(self._desk, *arguments)
        self._lines = (*self._lines, line)
        return told

    def results(self, lines):
        """A generator of the results of some lines, each of which is done when its result is asked for."""
        if not isinstance(lines, tuple):
            raise InvalidOperation("these are no lines")
        for line in lines:
            yield self.do(line)
