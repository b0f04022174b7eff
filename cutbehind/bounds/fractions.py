"""The least fraction by which a cutter is dearer than the cheapest cut, for all texts."""

from math import gcd

from cutbehind.base.signs import is_integer
from cutbehind.bounds.ascents import Ascent
from cutbehind.bounds.papers import are_at_most, are_integers, do_rise, growth, is_paper_of
from cutbehind.cuts.cutters import check_cutter
from cutbehind.errors import InvalidOperation
from cutbehind.stands.graph import Graph
from cutbehind.stands.steps import spent_behind


def _is_fraction(value):
    """Whether the value is a pair of integers of at least 1 in lowest terms."""
    if not isinstance(value, tuple) or len(value) != 2:
        return False
    p, q = value
    return is_integer(p) and is_integer(q) and p >= 1 and q >= 1 and gcd(p, q) == 1


def _in_lowest_terms(price, least):
    shared = gcd(price, least)
    return price // shared, least // shared


def _fraction_at(cutter, text):
    """The fraction that a text of at least one sign reaches."""
    least = spent_behind(cutter, text)[1]
    return _in_lowest_terms(cutter.behind(text) + least, least)


def _fraction_along(cutter, ring):
    """The fraction to which the texts along a ring come near."""
    u, v = ring
    told, least = growth(cutter, u, v)
    return _in_lowest_terms(told, least)


def _climb(cutter, graph):
    """The least fraction, its ascent, and the ring that led to it, or None.

    A text or a ring that goes beyond a fraction has a greater one, which is tried next.
    """
    fraction = (1, 1)
    ring = None
    while True:
        p, q = fraction
        ascent = Ascent(graph, p, q)
        if ascent.ring is not None:
            ring = ascent.ring_texts()
            fraction = _fraction_along(cutter, ring)
            continue
        greatest, place = ascent.best(q)
        if greatest <= 0:
            return fraction, ascent, ring
        fraction = _fraction_at(cutter, ascent.text_to(place))


def _holds(graph, fraction, numbers, most):
    """Whether the integers show the fraction for all texts of at least one sign."""
    p, q = fraction
    if not graph.are_keys(graph.places_behind_signs(), numbers) or not are_integers(numbers):
        return False
    for target, price, change in graph.steps[0]:
        if numbers[graph.stands[target]] < q * price - p * change:
            return False
    return do_rise(graph, numbers, p, q) and are_at_most(graph, numbers, q, most)


def _is_reached(cutter, graph, value):
    """Whether the value is a reached paper."""
    _, fraction, text, numbers = value
    if not _is_fraction(fraction) or not cutter.book.accepts(text) or text == "":
        return False
    return _fraction_at(cutter, text) == fraction and _holds(graph, fraction, numbers, 0)


def _is_approached(cutter, graph, value):
    """Whether the value is an approached paper."""
    _, fraction, u, v, numbers = value
    grown = growth(cutter, u, v)
    if not _is_fraction(fraction) or grown is None:
        return False
    p, q = fraction
    return q * grown[0] == p * grown[1] and _holds(graph, fraction, numbers, -1)


def fraction_of(cutter):
    """The least fraction of the cutter."""
    return fraction_paper(cutter)[1]


def fraction_paper(cutter):
    """A reached paper or an approached paper."""
    graph = Graph(cutter)
    fraction, ascent, ring = _climb(cutter, graph)
    sums = {graph.stands[place]: number for place, number in ascent.sums.items()}
    numbers = {stand: sums[stand] for stand in sorted(sums)}
    greatest, place = ascent.best(fraction[1])
    if greatest == 0:
        return ("reached", fraction, ascent.text_to(place), numbers)
    u, v = ring
    return ("approached", fraction, u, v, numbers)


def is_fraction_paper(cutter, value):
    """Whether the value is a reached paper or an approached paper of the cutter."""
    graph = Graph(cutter)
    if is_paper_of(value, "reached", 4):
        return _is_reached(cutter, graph, value)
    return is_paper_of(value, "approached", 5) and _is_approached(cutter, graph, value)


def is_within_fraction(cutter, fraction):
    """Whether the cutter is never dearer than the cheapest cut by more than the fraction."""
    check_cutter(cutter)
    if not _is_fraction(fraction):
        raise InvalidOperation("a fraction is a pair of integers of at least 1 in lowest terms")
    p, q = fraction_of(cutter)
    return p * fraction[1] <= fraction[0] * q
