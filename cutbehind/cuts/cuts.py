"""Cuts of texts into pieces of a book, and what they cost."""

from cutbehind.base.checks import check_book, check_text
from cutbehind.base.least import prices_of_beginnings, prices_of_rests
from cutbehind.errors import InvalidOperation, InvalidText, TooMany

MAX_CUTS = 2000


def _check(book, text):
    check_book(book)
    check_text(book, text)


def _are_pieces(book, value):
    """Whether the value is a tuple of pieces of the book."""
    return isinstance(value, tuple) and all([piece in book for piece in value])


def _all_choices(book, text):
    """For each place of the text, the pieces that may stand there, ascending."""
    return [[piece for piece in book if text.startswith(piece, place)] for place in range(len(text))]


def _cheapest_choices(book, text):
    """For each place of the text, the pieces with which a cheapest cut of the rest begins, ascending."""
    prices = book.prices
    least = prices_of_rests(book, text)
    found = []
    for place, pieces in enumerate(_all_choices(book, text)):
        found.append([piece for piece in pieces if prices[piece] + least[place + len(piece)] == least[place]])
    return found


def _count(choices):
    """The number of cuts that take one of the choices at each place."""
    counts = [0] * len(choices) + [1]
    for place in range(len(choices) - 1, -1, -1):
        counts[place] = sum([counts[place + len(piece)] for piece in choices[place]])
    return counts[0]


def _check_few(choices):
    if _count(choices) > MAX_CUTS:
        raise TooMany(MAX_CUTS)


def _complete(choices, cut, turns):
    """Takes the first choice at each place behind the cut, and notes in turns where there are others."""
    place = sum([len(piece) for piece in cut])
    while place < len(choices):
        pieces = choices[place]
        if len(pieces) > 1:
            turns.append((len(cut), pieces[1:]))
        cut.append(pieces[0])
        place = place + len(pieces[0])


def _listed(choices):
    """The cuts that take one of the choices at each place, ascending."""
    cut = []
    turns = []
    _complete(choices, cut, turns)
    yield tuple(cut)
    # The last turn comes first: cuts that differ late are neighbours in Python's order of tuples.
    while turns:
        many, pieces = turns.pop()
        del cut[many:]
        cut.append(pieces[0])
        if len(pieces) > 1:
            turns.append((many, pieces[1:]))
        _complete(choices, cut, turns)
        yield tuple(cut)


def is_cut(book, text, value):
    """Whether the value is a cut of the text."""
    _check(book, text)
    return _are_pieces(book, value) and "".join(value) == text


def price_of(book, value):
    """The price of a tuple of pieces of the book."""
    check_book(book)
    if not _are_pieces(book, value):
        raise InvalidText("a tuple of pieces of the book is needed")
    prices = book.prices
    return sum([prices[piece] for piece in value])


def cheapest_price(book, text):
    """The least price of all cuts of the text."""
    _check(book, text)
    return prices_of_beginnings(book, text)[-1]


def cheapest(book, text):
    """The first cheapest cut of the text."""
    _check(book, text)
    cut = []
    _complete(_cheapest_choices(book, text), cut, [])
    return tuple(cut)


def cuts(book, text):
    """All cuts of the text, ascending."""
    _check(book, text)
    choices = _all_choices(book, text)
    _check_few(choices)
    yield from _listed(choices)


def cheapest_cuts(book, text):
    """All cheapest cuts of the text, ascending."""
    _check(book, text)
    choices = _cheapest_choices(book, text)
    _check_few(choices)
    yield from _listed(choices)


def count_cuts(book, text):
    """The number of all cuts of the text."""
    _check(book, text)
    return _count(_all_choices(book, text))


def count_cheapest(book, text):
    """The number of all cheapest cuts of the text."""
    _check(book, text)
    return _count(_cheapest_choices(book, text))


def loss(book, text, piece):
    """What it costs above the least price to begin a cut of the text with this piece."""
    _check(book, text)
    if piece not in book or not text.startswith(piece):
        raise InvalidOperation("a piece is needed with which the text begins")
    least = prices_of_rests(book, text)
    return book[piece] + least[len(piece)] - least[0]


def harmless(book, text):
    """The pieces whose loss at the text is 0, ascending."""
    _check(book, text)
    choices = _cheapest_choices(book, text)
    return tuple(choices[0]) if choices else ()
