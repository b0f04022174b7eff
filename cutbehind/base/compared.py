"""Books compared by their least prices of all texts."""

from cutbehind.base.books import Book
from cutbehind.errors import InvalidBook, InvalidOperation


def _least_price(book, text):
    """The least price of all cuts of a text over the book."""
    least = [0]
    for end in range(1, len(text) + 1):
        last = [piece for piece in book if text[:end].endswith(piece)]
        least.append(min([least[end - len(piece)] + book[piece] for piece in last]))
    return least[-1]


def _check_book(book):
    if not isinstance(book, Book):
        raise InvalidBook("a book is needed")


def _check_books(book, other):
    _check_book(book)
    _check_book(other)
    if book.alphabet != other.alphabet:
        raise InvalidOperation("the alphabets of the books differ")


def is_nowhere_dearer(book, other):
    """Whether each text costs at most as much by the book as by the other one."""
    return dearer_piece(book, other) is None


def dearer_piece(book, other):
    """The first piece of the other book that costs more by the book, or None."""
    _check_books(book, other)
    for piece in other:
        if _least_price(book, piece) > other[piece]:
            return piece
    return None


def are_as_cheap(book, other):
    """Whether each text costs the same by both books."""
    return is_nowhere_dearer(book, other) and is_nowhere_dearer(other, book)


def needless(book):
    """The pieces of several signs that a cut into more pieces makes as cheaply, ascending."""
    _check_book(book)
    several = [piece for piece in book if len(piece) > 1]
    # Without the piece itself, all cuts of it have at least two pieces.
    return tuple([piece for piece in several if _least_price(book - (piece,), piece) <= book[piece]])


def least_book(book):
    """The book without its needless pieces."""
    return book - needless(book)
