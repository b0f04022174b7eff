"""Pieces that are safe at a text: no continuation makes them a loss."""

from cutbehind.base.checks import check_book, check_sign, check_text
from cutbehind.base.reach import NOWHERE
from cutbehind.errors import InvalidOperation, InvalidStand, UnknownPiece
from cutbehind.view.besides import beside_behind, beside_step, has_form_of_beside
from cutbehind.view.tracks import track_of

MAX_BESIDES = 2000


def _check(book, text, piece):
    check_book(book)
    check_text(book, text)
    if piece not in book:
        raise UnknownPiece(piece)
    if not text.startswith(piece):
        raise InvalidOperation("the text does not begin with the piece")


def _track_for(book, text, piece):
    """The track of the piece, and the place to which the text leads."""
    _check(book, text, piece)
    track = track_of(book, piece, MAX_BESIDES)
    return track, track.place_behind(text)


def is_safe(book, text, piece):
    """Whether the piece is safe at the text."""
    track, place = _track_for(book, text, piece)
    return track.is_safe_at(place)


def against(book, text, piece):
    """A shortest continuation against the piece at the text, or None."""
    track, place = _track_for(book, text, piece)
    return track.continuation(place)


def safe_pieces(book, text):
    """The pieces that are safe at the text, ascending."""
    check_book(book)
    return tuple([piece for piece in book.starting(text) if is_safe(book, text, piece)])


def beside_of(book, text, piece):
    """The beside of the text and the piece."""
    _check(book, text, piece)
    return beside_behind(book, text, piece)


def next_beside(book, beside, sign):
    """The beside when a further sign is read."""
    check_book(book)
    if not has_form_of_beside(book, beside):
        raise InvalidStand("a beside is a pair of a front and losses")
    check_sign(book, sign)
    return beside_step(book, beside, sign)


def safe_paper(book, text, piece):
    """The besides that show that the piece is safe at the text, or a continuation against it."""
    track, place = _track_for(book, text, piece)
    if not track.is_safe_at(place):
        return ("against", track.continuation(place))
    besides = track.besides()
    return ("safe", tuple(sorted([besides[reached] for reached in track.places_from(place)])))


def _are_closed(book, track, place, besides):
    """Whether these are besides without first losses, with that of a place, and with whatever follows from them."""
    known = {beside: track.place_of(beside) for beside in besides}
    places = {reached: True for reached in known.values() if reached != NOWHERE}
    if place not in places or list(besides) != sorted(known):
        return False
    for beside, found in known.items():
        if beside[1][0] > 0:
            return False
        if found != NOWHERE:
            inside = [target in places for target in track.targets[found]]
        else:
            inside = [beside_step(book, beside, sign) in known for sign in book.alphabet]
        if not all(inside):
            return False
    return True


def _shows_safe(book, track, place, besides):
    """Whether these besides show that the piece is safe at the texts that lead to this place."""
    if place == NOWHERE or not isinstance(besides, tuple):
        return False
    # Only besides of the right form can be looked up and compared.
    if not all([has_form_of_beside(book, beside) for beside in besides]):
        return False
    return _are_closed(book, track, place, besides)


def is_safe_paper(book, text, piece, value):
    """Whether the value shows that the piece is safe at the text, or that it is not."""
    track, place = _track_for(book, text, piece)
    if not isinstance(value, tuple) or len(value) != 2:
        return False
    kind, shown = value
    if kind == "safe":
        return _shows_safe(book, track, place, shown)
    return kind == "against" and book.accepts(shown) and track.has_loss_at(track.place_from(place, shown))
