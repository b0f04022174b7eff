"""Races: two cutters that cut the same texts."""

from cutbehind.base.checks import check_text
from cutbehind.base.reach import reach
from cutbehind.bounds.amounts import amount_paper, greatest_amount, is_amount_paper
from cutbehind.bounds.firsts import first_text_above
from cutbehind.bounds.ratios import is_ratio_paper, least_ratio, ratio_paper
from cutbehind.cuts.cutters import check_cutter
from cutbehind.errors import InvalidOperation, InvalidStand, TooMany
from cutbehind.stands.graph import Graph
from cutbehind.stands.waits import do_many_wait, waits_of

MAX_PAIRS = 2000


def _find_pairs(one, other):
    """The graph of the pairs of what waits in both cutters, where both sides pay for what is told."""
    if do_many_wait(one, MAX_PAIRS) or do_many_wait(other, MAX_PAIRS):
        raise TooMany(MAX_PAIRS)
    left, right = waits_of(one), waits_of(other)

    def follow(pair):
        return list(zip(left.left_after(pair[0]), right.left_after(pair[1])))

    found = reach(("", ""), one.book.alphabet, follow, MAX_PAIRS)
    if found is None:
        raise TooMany(MAX_PAIRS)
    steps = []
    for targets, (first, second) in zip(found.targets, found.nodes):
        steps.append(list(zip(targets, left.told_after(first), right.told_after(second))))
    finals = [(left.at_end(first), right.at_end(second)) for first, second in found.nodes]
    return Graph(one.book.alphabet, found.nodes, found.shortest, steps, finals)


class Race:
    """Two cutters beside one another, for all texts; it never changes."""

    def __init__(self, one, other):
        check_cutter(one)
        check_cutter(other)
        if one.book.alphabet != other.book.alphabet:
            raise InvalidOperation("the alphabets of the cutters differ")
        self._one = one
        self._other = other
        self._graph = _find_pairs(one, other)
        self._pairs = self._graph.ascending()

    @property
    def one(self):
        """The cutter whose price counts for the lead."""
        return self._one

    @property
    def other(self):
        """The cutter whose price counts against it."""
        return self._other

    @property
    def pairs(self):
        """The pairs of waiting signs, ascending."""
        return self._pairs

    def turned(self):
        """The race with the cutters in each other's places."""
        return Race(self._other, self._one)

    def __contains__(self, value):
        # A value that cannot be hashed must not reach the dict.
        if not isinstance(value, tuple) or not all([isinstance(part, str) for part in value]):
            return False
        return value in self._graph.places

    def __getitem__(self, pair):
        if pair not in self:
            raise InvalidStand("no text has this pair")
        return self._graph.shortest[self._graph.places[pair]]

    def __iter__(self):
        raise TypeError("a race is not iterated over")

    def __len__(self):
        return len(self._pairs)

    def __eq__(self, other):
        return isinstance(other, Race) and self._one == other._one and self._other == other._other

    def __str__(self):
        return f"race of {len(self._pairs)} pairs"

    def lead(self, text):
        """How much more the one cutter's cut of the text costs than the other's."""
        check_text(self._one.book, text)
        one, other = self._graph.paid(text)
        return one - other

    def greatest(self):
        """The greatest lead of all texts, or None if there is none."""
        return greatest_amount(self._graph)[0]

    def fraction(self):
        """The least fraction by which the one cutter is dearer than the other."""
        return least_ratio(self._one.book, self._graph)

    def first_lead(self):
        """A shortest text with a lead above 0, or None."""
        return first_text_above(self._graph)

    def paper(self):
        """A bound paper or a ring paper."""
        return amount_paper(self._graph)

    def rate_paper(self):
        """A reached paper or an approached paper."""
        return ratio_paper(self._one.book, self._graph)

    def is_paper(self, value):
        """Whether the value is a bound paper or a ring paper of the race."""
        return is_amount_paper(self._one.book, self._graph, value)

    def is_rate_paper(self, value):
        """Whether the value is a reached paper or an approached paper of the race."""
        return is_ratio_paper(self._one.book, self._graph, value)
