"""Stands of a cutter: all that matters for how it goes on, beside the cheapest cut."""

from cutbehind.base.checks import check_sign, check_text
from cutbehind.base.least import prices_of_beginnings
from cutbehind.cuts.cutters import check_cutter
from cutbehind.errors import InvalidStand
from cutbehind.stands.graph import check_few_stands, shortest_texts, stand_graph
from cutbehind.stands.steps import has_form_of_stand, price_at_end, prices_at_end
from cutbehind.stands.steps import read_sign, spent_behind, stand_behind, stand_step

MAX_STANDS = 2000
EMPTY_STAND = (("", ()), "")


def graph_of(cutter):
    """The graph of the cutter's stands."""
    check_cutter(cutter)
    return stand_graph(cutter, MAX_STANDS)


def check_stands(cutter):
    """Refuses what is not a cutter, or has too many stands."""
    check_cutter(cutter)
    check_few_stands(cutter, MAX_STANDS)


def _check(cutter, text):
    check_cutter(cutter)
    check_text(cutter.book, text)


def _check_stand(cutter, stand):
    check_cutter(cutter)
    if not has_form_of_stand(cutter, stand):
        raise InvalidStand("a stand is a pair of a front and waiting signs")


def stand_of(cutter, text):
    """The stand of the cutter that has read a text that may go on."""
    _check(cutter, text)
    return stand_behind(cutter, text)


def spent(cutter, text):
    """The price of what the cutter has told, and the least price of the text."""
    _check(cutter, text)
    return spent_behind(cutter, text)


def next_stand(cutter, stand, sign):
    """The stand when a further sign is read, the price of what is told, and the change of the least price."""
    _check_stand(cutter, stand)
    check_sign(cutter.book, sign)
    return stand_step(cutter, stand, sign)


def end_price(cutter, stand):
    """The price of what the cutter tells for the waiting signs if the text ends there."""
    _check_stand(cutter, stand)
    return price_at_end(cutter, stand[1])


def _seeing_less(cutter):
    """A cutter that cuts each text alike, but sees no more signs than can matter."""
    far = [len(text) for text in cutter.order + tuple(cutter.table)] + [len(text) + 1 for text in cutter.ends]
    return cutter.with_view(max(far)) if max(far) < cutter.view else cutter


def behind_along(cutter, text):
    """The amounts by which the cutter is behind on each beginning of the text."""
    _check(cutter, text)
    # With a long view many signs wait, which would be cut again and again.
    reader = _seeing_less(cutter)
    rows = [("", 0)]
    for sign in text:
        waiting, price = rows[-1]
        left, told = read_sign(reader, waiting, sign)
        rows.append((left, price + told))
    ends = prices_at_end(reader, [waiting for waiting, price in rows])
    least = prices_of_beginnings(cutter.book, text)
    return tuple([price + ends[waiting] - cheapest for (waiting, price), cheapest in zip(rows, least)])


class Stands:
    """The reached stands of a cutter; it never changes."""

    def __init__(self, cutter):
        check_cutter(cutter)
        self._cutter = cutter
        self._found = shortest_texts(cutter, MAX_STANDS)
        self._rows = tuple(self._found)

    @property
    def rows(self):
        """The stands, ascending."""
        return self._rows

    @property
    def first(self):
        """The stand of the empty text."""
        return EMPTY_STAND

    def __iter__(self):
        return iter(self._rows)

    def __len__(self):
        return len(self._rows)

    def __contains__(self, value):
        # True and 1 are one key of a dict, but only 1 is an integer.
        return has_form_of_stand(self._cutter, value) and value in self._found

    def __getitem__(self, stand):
        if stand not in self:
            raise InvalidStand("no text has this stand")
        return self._found[stand]
