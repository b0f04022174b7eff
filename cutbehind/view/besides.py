"""Besides of texts of any length with a piece, without checks."""

from cutbehind.base.least import prices_of_beginnings
from cutbehind.base.signs import is_integer
from cutbehind.fronts.steps import front_behind, front_step, has_form_of_front, shortest_texts

# In a beside, the loss where too few signs are left for the piece.
NO_LOSS = -1


def has_form_of_beside(book, value):
    """Whether the value is a pair of a front and losses, of a text or not."""
    if not isinstance(value, tuple) or len(value) != 2:
        return False
    front, losses = value
    if not has_form_of_front(book, front) or not isinstance(losses, tuple) or len(losses) != book.longest:
        return False
    if not all([is_integer(number) and number >= NO_LOSS for number in losses]) or losses[0] < 0:
        return False
    return all([number == NO_LOSS for number in losses[len(front[0]) + 1:]])


def _losses_behind(book, text, piece, many):
    """The losses of the piece at the text without its last signs, from none to less than many of them."""
    least = prices_of_beginnings(book, text)
    rest = prices_of_beginnings(book, text[len(piece):])
    losses = []
    for left in range(len(text), len(text) - many, -1):
        behind = left - len(piece)
        losses.append(book[piece] + rest[behind] - least[left] if behind >= 0 else NO_LOSS)
    return tuple(losses)


def loss_behind(book, text, piece):
    """The loss of the piece at a text that begins with it."""
    return _losses_behind(book, text, piece, 1)[0]


def beside_behind(book, text, piece):
    """The beside of a text and a piece with which it begins."""
    return front_behind(book, text), _losses_behind(book, text, piece, book.longest)


def beside_step(book, beside, sign):
    """The next beside."""
    prices = book.prices
    front, losses = beside
    signs, differences = front
    longer = signs + sign
    further, change = front_step(book, front, sign)
    costs = [prices[sign] + losses[0]]
    for piece in prices:
        back = len(piece) - 1
        if back > 0 and longer.endswith(piece) and losses[back] != NO_LOSS:
            costs.append(prices[piece] + differences[back - 1] + losses[back])
    return further, (min(costs) - change,) + losses[:-1]


def check_few(book, piece, limit):
    """Refuses a piece if the texts at which it is not lost have more besides with it than the limit."""
    def step(beside, sign):
        further = beside_step(book, beside, sign)
        # A piece that is lost stays lost.
        return further if 0 in further[1] else None

    shortest_texts(beside_behind(book, piece, piece), book.alphabet, step, limit)


def besides_without_loss(book, start, limit):
    """A dict from the besides to which no first loss but 0 leads, from a first one on, to shortest texts behind it."""
    def step(beside, sign):
        further = beside_step(book, beside, sign)
        return None if further[1][0] > 0 else further

    return shortest_texts(start, book.alphabet, step, limit)
