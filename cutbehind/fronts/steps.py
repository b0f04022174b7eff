"""Fronts of texts of any length, and how values are reached sign by sign."""

from cutbehind.base.least import prices_of_beginnings
from cutbehind.base.signs import is_integer
from cutbehind.errors import TooMany

EMPTY_FRONT = ("", ())


def has_form_of_front(book, value):
    """Whether the value is a pair of signs and as many differences, reached or not."""
    if not isinstance(value, tuple) or len(value) != 2:
        return False
    signs, differences = value
    if not book.accepts(signs) or len(signs) >= book.longest:
        return False
    if not isinstance(differences, tuple) or len(differences) != len(signs):
        return False
    return all([is_integer(number) for number in differences])


def front_behind(book, text):
    """The front of a text over the book."""
    least = prices_of_beginnings(book, text)
    many = min(len(text), book.longest - 1)
    differences = [least[-1 - back] - least[-1] for back in range(1, many + 1)]
    return text[len(text) - many:], tuple(differences)


def front_step(book, front, sign):
    """The next front, and the change of the least price."""
    prices = book.prices
    signs, differences = front
    longer = signs + sign
    costs = [prices[sign]]
    for piece in prices:
        if len(piece) > 1 and longer.endswith(piece):
            costs.append(prices[piece] + differences[len(piece) - 2])
    change = min(costs)
    many = min(len(longer), book.longest - 1)
    moved = [-change] + [number - change for number in differences]
    return (longer[len(longer) - many:], tuple(moved[:many])), change


def shortest_texts(first, alphabet, step, limit):
    """A dict from each value that is reached to a shortest text, by the number of signs.

    The first value is that of the empty text; step(value, sign) is the next one, or None for one that
    does not count.
    """
    found = {first: ""}
    values = [first]
    place = 0
    while place < len(values):
        value = values[place]
        place = place + 1
        for sign in alphabet:
            reached = step(value, sign)
            if reached is None or reached in found:
                continue
            if len(found) == limit:
                raise TooMany(limit)
            found[reached] = found[value] + sign
            values.append(reached)
    return found
