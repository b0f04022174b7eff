"""Fronts of texts of any length, without checks."""

from cutbehind.base.least import prices_of_beginnings
from cutbehind.base.signs import are_integers


def has_form_of_front(book, value):
    """Whether the value is a pair of signs and as many differences, reached or not."""
    if not isinstance(value, tuple) or len(value) != 2:
        return False
    signs, differences = value
    if not book.accepts(signs) or len(signs) >= book.longest:
        return False
    if not isinstance(differences, tuple) or len(differences) != len(signs):
        return False
    return are_integers(differences)


def front_behind(book, text):
    """The front of a text over the book."""
    least = prices_of_beginnings(book, text)
    many = min(len(text), book.longest - 1)
    differences = [least[-1 - back] - least[-1] for back in range(1, many + 1)]
    return text[len(text) - many:], tuple(differences)


def front_step(book, front, sign):
    """The next front, and the change of the least price."""
    signs, differences = front
    longer = signs + sign
    change = book[sign]
    for piece, many, price in book.ending[sign]:
        if longer.endswith(piece):
            change = min(change, price + differences[many - 2])
    many = min(len(longer), book.longest - 1)
    moved = [-change] + [number - change for number in differences]
    return (longer[len(longer) - many:], tuple(moved[:many])), change
