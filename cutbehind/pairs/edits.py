"""Edits: what happens to a cut when a part of its text is replaced."""

from cutbehind.base.checks import check_text
from cutbehind.base.signs import is_integer
from cutbehind.cuts.cutters import check_cutter
from cutbehind.errors import InvalidNumber, InvalidText
from cutbehind.pairs.meets import meeting_of
from cutbehind.stands.steps import stand_behind
from cutbehind.stands.waits import waits_of

MAX_WAITING = 121


def _boundaries_behind(cutter, text, start):
    """The boundaries of the text of any length from a place on, counted from there, ascending."""
    place = 0
    found = []
    for piece in cutter.pieces_for(text, True) + ("",):
        if place >= start:
            found.append(place - start)
        place = place + len(piece)
    return found


def boundaries(cutter, text):
    """The positions between the pieces of the cut of the text, with both ends."""
    check_cutter(cutter)
    check_text(cutter.book, text)
    return tuple(_boundaries_behind(cutter, text, 0))


def _least_common(cutter, old, new, rest):
    first = _boundaries_behind(cutter, old + rest, len(old))
    known = {place: True for place in _boundaries_behind(cutter, new + rest, len(new))}
    return min([place for place in first if place in known])


def common_boundary(cutter, old, new, rest):
    """The first position behind old and behind new at which both texts have a boundary."""
    check_cutter(cutter)
    for text in (old, new, rest):
        check_text(cutter.book, text)
    return _least_common(cutter, old, new, rest)


def _check_place(value, least, most):
    if not is_integer(value) or not least <= value <= most:
        raise InvalidNumber(value)


def edited(book, text, start, stop, signs):
    """The text with another part from one index on, up to another one."""
    _check_place(start, 0, len(text))
    _check_place(stop, start, len(text))
    check_text(book, signs)
    changed = text[:start] + signs + text[stop:]
    if not book.accepts(changed):
        raise InvalidText("the text would have too many signs")
    return changed


def _many_alike(first, second):
    """With how many equal items both begin."""
    many = 0
    while many < min(len(first), len(second)) and first[many] == second[many]:
        many = many + 1
    return many


def cuts_compared(before, after):
    """How many pieces at the beginning are the same in both cuts, and the different ones between them and the last."""
    index = _many_alike(before, after)
    last = _many_alike(before[index:][::-1], after[index:][::-1])
    return index, before[index:len(before) - last], after[index:len(after) - last]


def recut(cutter, text, start, stop, signs):
    """What an edit of the text does to its cut."""
    check_cutter(cutter)
    check_text(cutter.book, text)
    changed = edited(cutter.book, text, start, stop, signs)
    return cuts_compared(cutter.cut(text), cutter.cut(changed))


def _meeting_for(cutter):
    check_cutter(cutter)
    return meeting_of(cutter, MAX_WAITING)


def meets_within(cutter):
    """The greatest of the least common boundaries of all texts, or None if there is none."""
    return _meeting_for(cutter).number


def meeting_paper(cutter):
    """A paper of a greatest least common boundary, or of texts that have no common boundary."""
    found = _meeting_for(cutter)
    if found.number is None:
        return ("apart", found.old, found.new, found.rest)
    return ("within", found.number, found.old, found.new, found.rest)


def _are_apart(cutter, old, new, v):
    """Whether there is no common boundary behind old and behind new when v is read again and again."""
    waits = waits_of(cutter)
    indexes = {sign: index for index, sign in enumerate(cutter.book.alphabet)}
    one = stand_behind(cutter, old)[1]
    other = stand_behind(cutter, new)[1]
    many = 0
    seen = {}
    # At first a boundary can lie before the end of old or of new, so the number of signs matters, too.
    while (one, other, min(many, cutter.view)) not in seen:
        seen[(one, other, min(many, cutter.view))] = True
        for sign in v:
            one = waits.left_after(one)[indexes[sign]]
            other = waits.left_after(other)[indexes[sign]]
            many = many + 1
            if len(one) == len(other) <= many:
                return False
    return True


def is_meeting_paper(cutter, value):
    """Whether the value is a meeting paper of the cutter."""
    found = _meeting_for(cutter)
    if not isinstance(value, tuple) or len(value) not in (4, 5):
        return False
    texts = value[-3:]
    if not all([cutter.book.accepts(text) for text in texts]):
        return False
    if len(value) == 4:
        return value[0] == "apart" and texts[2] != "" and _are_apart(cutter, texts[0], texts[1], texts[2])
    if value[0] != "within" or not is_integer(value[1]) or value[1] != found.number:
        return False
    return _least_common(cutter, texts[0], texts[1], texts[2]) == value[1]
