"""The least view: how many signs a cutter must see so that it can be never behind."""

from cutbehind.base.checks import check_book
from cutbehind.base.signs import MAX_LENGTH
from cutbehind.cuts.cutters import Cutter
from cutbehind.errors import InvalidOperation
from cutbehind.view.safe import MAX_BESIDES
from cutbehind.view.tracks import track_of
from cutbehind.view.windows import windows_of

MAX_FANS = 2000
MAX_MINIMAL = 2000


def _windows_for(book):
    check_book(book)
    return windows_of(book, MAX_BESIDES, MAX_FANS, MAX_MINIMAL)


def minimal_windows(book):
    """The minimal windows, ascending, or None if no view is enough."""
    found = _windows_for(book)
    return None if found.safe is None else tuple(found.safe)


def least_view(book):
    """The number of signs of a longest minimal window, or None if no view is enough."""
    windows = minimal_windows(book)
    return None if windows is None else max([len(window) for window in windows])


def _reasons(book, u):
    """For each piece with which the text begins a continuation against it there."""
    found = {}
    for piece in book.starting(u):
        track = track_of(book, piece, MAX_BESIDES)
        found[piece] = track.continuation(track.place_behind(u))
    return found


def view_paper(book):
    """A paper of minimal windows, or of a text at whose beginnings no piece is safe."""
    found = _windows_for(book)
    if found.safe is None:
        u, v = found.ring
        # The fan of u comes back with each v, so what is against a piece at u is against it ever again.
        return ("never", u, v, _reasons(book, u))
    table = {window: pieces[0] for window, pieces in found.safe.items()}
    ends = {text: pieces[0] for text, pieces in found.harmless.items()}
    return ("windows", table, ends)


def _is_choice(value, choices):
    """Whether the value is a dict from just these texts to one of the pieces for each of them."""
    if not isinstance(value, dict) or len(value) != len(choices):
        return False
    for text, pieces in choices.items():
        if text not in value or value[text] not in pieces:
            return False
    return True


def _is_against(book, piece, u, v, reason):
    """Whether the text is a continuation against the piece at u, uv, uvv, .."""
    track = track_of(book, piece, MAX_BESIDES)
    place = track.place_behind(u)
    seen = {}
    while place not in seen:
        if not track.has_loss_at(track.place_from(place, reason)):
            return False
        seen[place] = True
        place = track.place_from(place, v)
    return True


def _are_never_safe(book, u, v, reasons):
    """Whether the reasons show that no piece is safe at any beginning of uvvv.."""
    if not book.accepts(u) or not book.accepts(v) or v == "" or not isinstance(reasons, dict):
        return False
    beginning = (u + v * MAX_LENGTH)[:MAX_LENGTH]
    pieces = book.starting(beginning)
    if len(reasons) != len(pieces):
        return False
    for piece in pieces:
        if piece not in reasons or len(piece) > len(u) or not book.accepts(reasons[piece]):
            return False
    return all([_is_against(book, piece, u, v, reasons[piece]) for piece in pieces])


def is_view_paper(book, value):
    """Whether the value is a paper of the one or of the other form."""
    found = _windows_for(book)
    if not isinstance(value, tuple) or len(value) not in (3, 4):
        return False
    if len(value) == 4:
        return value[0] == "never" and _are_never_safe(book, value[1], value[2], value[3])
    if found.safe is None or value[0] != "windows":
        return False
    return _is_choice(value[1], found.safe) and _is_choice(value[2], found.harmless)


def cutter_by(book, paper):
    """The cutter that sees the least view and tells what a paper of minimal windows says."""
    if not is_view_paper(book, paper) or paper[0] != "windows":
        raise InvalidOperation("a paper with the minimal windows of the book is needed")
    return Cutter(book, book.pieces, view=least_view(book), table=paper[1], ends=paper[2])
