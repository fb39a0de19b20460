"""Texts of books."""

from twoandabell.base.words import LEVEL_WORDS
from twoandabell.book.books import Book, Level
from twoandabell.book.checks import check_book
from twoandabell.errors import InvalidBook, InvalidLevel, ParseError

# No book has a greater number, so no other text of a number needs to be read.
NUMBER_TEXTS = ("0", "1", "2", "3")

LEVEL_START = "level "


def write_book(book):
    """The text of a book."""
    check_book(book)
    ranks = " ".join([str(level) for level in book.ranks])
    levels = [LEVEL_START + str(level) for level in book.levels]
    return "\n".join([f"ranks {ranks}", *levels])


def read_book(text):
    """The book with this text."""
    if not isinstance(text, str):
        raise ParseError("this is no text")
    first, *rest = text.split("\n")
    try:
        return Book.of(tuple([_read_level(line) for line in rest]), _read_ranks(first))
    except (InvalidLevel, InvalidBook):
        raise ParseError("there is no such book") from None


def _read_ranks(line):
    name, *levels = line.split(" ")
    if name != "ranks":
        raise ParseError("a book begins with its ranks")
    return tuple([_read_number(level) for level in levels])


def _read_level(line):
    if not line.startswith(LEVEL_START):
        raise ParseError("each line but the first one tells of a level")
    parts = line[len(LEVEL_START):].split(", ")
    if len(parts) != len(LEVEL_WORDS):
        raise ParseError("a level has six entries")
    entries = {word: _read_entry(word, part) for word, part in zip(LEVEL_WORDS, parts)}
    return Level(**entries)


def _read_entry(word, text):
    """The value of an entry, which has not yet the form of one for certain."""
    name, *parts = text.split(" ")
    if name != word or not parts:
        raise ParseError("the entries of a level have their order")
    if parts == ["none"]:
        return None
    number = _read_number(parts[0])
    return number if len(parts) == 1 else (number, *parts[1:])


def _read_number(text):
    if text not in NUMBER_TEXTS:
        raise ParseError("this is no number of a book")
    return int(text)
