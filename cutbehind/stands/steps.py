"""Stands of a cutter that has read a text of any length, without checks."""

from cutbehind.base.least import prices_of_beginnings
from cutbehind.fronts.steps import front_behind, front_step, has_form_of_front


def has_form_of_stand(cutter, value):
    """Whether the value is a pair of a front and waiting signs, reached or not."""
    if not isinstance(value, tuple) or len(value) != 2:
        return False
    front, waiting = value
    return has_form_of_front(cutter.book, front) and cutter.book.accepts(waiting) and len(waiting) < cutter.view


def _price_for(cutter, pieces):
    """The price of pieces that the cutter told."""
    prices = cutter.book.prices
    return sum([prices[piece] for piece in pieces])


def stand_behind(cutter, text):
    """The stand of the cutter that has read a text over its book."""
    seen = len("".join(cutter.pieces_for(text, False)))
    return front_behind(cutter.book, text), text[seen:]


def spent_behind(cutter, text):
    """The price of what the cutter has told when it has read the text, and the least price of the text."""
    return _price_for(cutter, cutter.pieces_for(text, False)), prices_of_beginnings(cutter.book, text)[-1]


def read_sign(cutter, waiting, sign):
    """The signs that wait when a further one is read, and the price of the piece that is told, or 0."""
    window = waiting + sign
    if len(window) < cutter.view:
        return window, 0
    piece = cutter.piece_for(window, False)
    return window[len(piece):], cutter.book[piece]


def price_at_end(cutter, waiting):
    """The price of the pieces that are told for waiting signs when the text ends."""
    return _price_for(cutter, cutter.pieces_for(waiting, True))


def prices_at_end(cutter, waitings):
    """A dict from waiting signs to the price of what is told for them when the text ends."""
    prices = {}
    # With a long view it takes long to cut what waits, and the same signs often wait again.
    for waiting in waitings:
        if waiting not in prices:
            prices[waiting] = price_at_end(cutter, waiting)
    return prices


def stand_step(cutter, stand, sign):
    """The next stand, the price of the piece that is told, or 0, and the change of the least price."""
    front, waiting = stand
    further, change = front_step(cutter.book, front, sign)
    left, price = read_sign(cutter, waiting, sign)
    return (further, left), price, change
