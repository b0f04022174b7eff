"""Books compared by their least prices of all texts."""

from cutbehind.base.checks import check_book
from cutbehind.base.least import prices_of_beginnings
from cutbehind.errors import InvalidOperation


def _least_price(book, text):
    """The least price of all cuts of a text over the book."""
    return prices_of_beginnings(book, text)[-1]


def _check_books(book, other):
    check_book(book)
    check_book(other)
    if book.alphabet != other.alphabet:
        raise InvalidOperation("the alphabets of the books differ")


def is_nowhere_dearer(book, other):
    """Whether each text costs at most as much by the book as by the other one."""
    return dearer_piece(book, other) is None


def dearer_piece(book, other):
    """The first piece of the other book that costs more by the book, or None."""
    _check_books(book, other)
    for piece in other:
        if _least_price(book, piece) > other[piece]:
            return piece
    return None


def are_as_cheap(book, other):
    """Whether each text costs the same by both books."""
    return is_nowhere_dearer(book, other) and is_nowhere_dearer(other, book)


def needless(book):
    """The pieces of several signs that a cut into more pieces makes as cheaply, ascending."""
    check_book(book)
    several = [piece for piece in book if len(piece) > 1]
    # Without the piece itself, all cuts of it have at least two pieces.
    return tuple([piece for piece in several if _least_price(book - (piece,), piece) <= book[piece]])


def least_book(book):
    """The book without its needless pieces."""
    return book - needless(book)
