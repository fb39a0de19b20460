"""The checks of arguments that are books."""

from twoandabell.book.books import Book
from twoandabell.errors import InvalidBook


def check_book(book):
    """Raise an error unless the value is a book."""
    if not isinstance(book, Book):
        raise InvalidBook("this is no book")


def check_books(book, other):
    """Raise an error unless the values are books with equal numbers of ranks."""
    check_book(book)
    check_book(other)
    if len(book.ranks) != len(other.ranks):
        raise InvalidBook("the books have other numbers of ranks")


def entry_at(book, key):
    """The entry of a book with a key; raise an error unless the values are a book and the key of an entry."""
    check_book(book)
    return book[key]
