"""Besides of texts of any length with a piece, without checks."""

from cutbehind.base.least import prices_of_beginnings
from cutbehind.base.signs import are_integers
from cutbehind.fronts.steps import front_behind, front_step, has_form_of_front

# In a beside, the loss where too few signs are left for the piece.
NO_LOSS = -1


def has_form_of_beside(book, value):
    """Whether the value is a pair of a front and losses, of a text or not."""
    if not isinstance(value, tuple) or len(value) != 2:
        return False
    front, losses = value
    if not has_form_of_front(book, front) or not isinstance(losses, tuple) or len(losses) != book.longest:
        return False
    if not are_integers(losses) or min(losses) < NO_LOSS or losses[0] < 0:
        return False
    beyond = losses[len(front[0]) + 1:]
    return beyond == (NO_LOSS,) * len(beyond)


def _losses_behind(book, text, piece):
    """The losses of the piece at the text and at the text without its last signs."""
    least = prices_of_beginnings(book, text)
    rest = prices_of_beginnings(book, text[len(piece):])
    losses = []
    for left in range(len(text), len(text) - book.longest, -1):
        behind = left - len(piece)
        losses.append(book[piece] + rest[behind] - least[left] if behind >= 0 else NO_LOSS)
    return tuple(losses)


def beside_behind(book, text, piece):
    """The beside of a text and a piece with which it begins."""
    return front_behind(book, text), _losses_behind(book, text, piece)


def beside_step(book, beside, sign):
    """The next beside."""
    front, losses = beside
    signs, differences = front
    longer = signs + sign
    further, change = front_step(book, front, sign)
    first = book[sign] + losses[0]
    for piece, many, price in book.ending[sign]:
        if longer.endswith(piece) and losses[many - 1] != NO_LOSS:
            first = min(first, price + differences[many - 2] + losses[many - 1])
    return further, (first - change,) + losses[:-1]
