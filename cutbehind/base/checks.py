"""Checks of arguments that several modules need."""

from cutbehind.base.books import Book
from cutbehind.errors import InvalidBook, InvalidText


def check_book(book):
    """Refuses what is not a book."""
    if not isinstance(book, Book):
        raise InvalidBook("a book is needed")


def check_text(book, text):
    """Refuses what is not a text over the book."""
    if not book.accepts(text):
        raise InvalidText("a text over the book is needed")


def check_sign(book, sign):
    """Refuses what is not a sign of the book's alphabet."""
    if sign not in book.alphabet:
        raise InvalidText("a sign of the alphabet is needed")
