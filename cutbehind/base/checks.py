"""Checks of arguments that several modules need."""

from cutbehind.base.books import Book
from cutbehind.base.signs import is_integer
from cutbehind.errors import InvalidBook, InvalidNumber, InvalidText


def check_book(book):
    """Refuses what is not a book."""
    if not isinstance(book, Book):
        raise InvalidBook("a book is needed")


def check_text(book, text):
    """Refuses what is not a text over the book."""
    if not book.accepts(text):
        raise InvalidText("a text over the book is needed")


def check_sign(book, sign):
    """Refuses what is not a sign of the book's alphabet."""
    if sign not in book.alphabet:
        raise InvalidText("a sign of the alphabet is needed")


def check_count(many):
    """Refuses what is not an integer of at least 0."""
    if not is_integer(many) or many < 0:
        raise InvalidNumber(many)
