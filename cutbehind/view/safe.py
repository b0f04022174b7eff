"""Pieces that are safe at a text: no continuation makes them a loss."""

from cutbehind.base.checks import check_book, check_sign, check_text
from cutbehind.errors import InvalidOperation, InvalidStand, UnknownPiece
from cutbehind.view.besides import beside_behind, beside_step, besides_without_loss, check_few
from cutbehind.view.besides import has_form_of_beside, loss_behind

MAX_BESIDES = 2000


def _check(book, text, piece):
    check_book(book)
    check_text(book, text)
    if piece not in book:
        raise UnknownPiece(piece)
    if not text.startswith(piece):
        raise InvalidOperation("the text does not begin with the piece")


def _check_with_limit(book, text, piece):
    _check(book, text, piece)
    check_few(book, piece, MAX_BESIDES)


def _first_loss(book, start):
    """A shortest text behind which the piece has a loss, from its beside on, or None; and the besides without one."""
    if start[1][0] > 0:
        return "", {}
    # They are besides of texts at which the piece is not lost, so the limit holds for them.
    besides = besides_without_loss(book, start, MAX_BESIDES)
    for beside, text in besides.items():
        for sign in book.alphabet:
            if beside_step(book, beside, sign)[1][0] > 0:
                return text + sign, besides
    return None, besides


def is_safe(book, text, piece):
    """Whether the piece is safe at the text."""
    return against(book, text, piece) is None


def against(book, text, piece):
    """A shortest continuation against the piece at the text, or None."""
    _check_with_limit(book, text, piece)
    return _first_loss(book, beside_behind(book, text, piece))[0]


def safe_pieces(book, text):
    """The pieces that are safe at the text, ascending."""
    check_book(book)
    return tuple([piece for piece in book.starting(text) if is_safe(book, text, piece)])


def beside_of(book, text, piece):
    """The beside of the text and the piece."""
    _check(book, text, piece)
    return beside_behind(book, text, piece)


def next_beside(book, beside, sign):
    """The beside when a further sign is read."""
    check_book(book)
    if not has_form_of_beside(book, beside):
        raise InvalidStand("a beside is a pair of a front and losses")
    check_sign(book, sign)
    return beside_step(book, beside, sign)


def safe_paper(book, text, piece):
    """The besides that show that the piece is safe at the text, or a continuation against it."""
    _check_with_limit(book, text, piece)
    continuation, besides = _first_loss(book, beside_behind(book, text, piece))
    if continuation is not None:
        return ("against", continuation)
    return ("safe", tuple(sorted(besides)))


def _are_closed(book, start, besides):
    """Whether these are ascending besides without first losses, with the start and all that follow."""
    if not isinstance(besides, tuple) or not all([has_form_of_beside(book, beside) for beside in besides]):
        return False
    known = {beside: True for beside in besides}
    if list(besides) != sorted(known) or start not in known:
        return False
    for beside in besides:
        if beside[1][0] > 0 or not all([beside_step(book, beside, sign) in known for sign in book.alphabet]):
            return False
    return True


def is_safe_paper(book, text, piece, value):
    """Whether the value shows that the piece is safe at the text, or that it is not."""
    _check_with_limit(book, text, piece)
    if not isinstance(value, tuple) or len(value) != 2:
        return False
    kind, shown = value
    if kind == "safe":
        return _are_closed(book, beside_behind(book, text, piece), shown)
    return kind == "against" and book.accepts(shown) and loss_behind(book, text + shown, piece) > 0
