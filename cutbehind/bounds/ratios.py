"""How many times as much the one side pays as the other, for all texts: reached papers and approached papers."""

from math import gcd

from cutbehind.base.signs import is_integer
from cutbehind.bounds.ascents import Ascent
from cutbehind.bounds.papers import do_hold, growth, is_paper_of, node_numbers, numbers_at


def is_fraction(value):
    """Whether the value is a pair of integers of at least 1 in lowest terms."""
    if not isinstance(value, tuple) or len(value) != 2:
        return False
    p, q = value
    return is_integer(p) and is_integer(q) and p >= 1 and q >= 1 and gcd(p, q) == 1


def _in_lowest_terms(one, other):
    shared = gcd(one, other)
    return one // shared, other // shared


def _ratio_at(graph, text):
    """The fraction that a text of at least one sign reaches."""
    one, other = graph.paid(text)
    return _in_lowest_terms(one, other)


def _find_ratio(book, graph):
    """The kind of the paper, the least fraction, a text that reaches it or the texts of a ring, and the sums.

    A text or a ring that goes beyond a fraction has a greater one, which is tried next.
    """
    fraction = _ratio_at(graph, graph.signs[0])
    ring = None
    while True:
        p, q = fraction
        ascent = Ascent(graph, p, q)
        if ascent.ring is not None:
            ring = ascent.ring_texts()
            one, other = growth(book, graph, ring[0], ring[1])
            fraction = _in_lowest_terms(one, other)
            continue
        greatest, place = ascent.best()
        if greatest == 0:
            return "reached", fraction, ascent.text_to(place), ascent.sums
        if greatest < 0:
            return ("approached", fraction) + ring + (ascent.sums,)
        fraction = _ratio_at(graph, ascent.text_to(place))


def _ratio_of(book, graph):
    if "ratio" not in graph.kept:
        graph.kept["ratio"] = _find_ratio(book, graph)
    return graph.kept["ratio"]


def least_ratio(book, graph):
    """The least fraction."""
    return _ratio_of(book, graph)[1]


def ratio_paper(book, graph):
    """A reached paper or an approached paper."""
    found = _ratio_of(book, graph)
    return found[:-1] + (node_numbers(graph, found[-1]),)


def _do_show(graph, fraction, numbers, most):
    """Whether the integers show the fraction for all texts of at least one sign."""
    p, q = fraction
    found = numbers_at(graph, graph.places_behind_signs(), numbers)
    if found is None:
        return False
    for target, one, other in graph.steps[0]:
        if found[target] < q * one - p * other:
            return False
    return do_hold(graph, found, p, q, most)


def _is_reached(book, graph, value):
    """Whether the value is a reached paper."""
    _, fraction, text, numbers = value
    if not is_fraction(fraction) or not book.accepts(text) or text == "":
        return False
    return _ratio_at(graph, text) == fraction and _do_show(graph, fraction, numbers, 0)


def _is_approached(book, graph, value):
    """Whether the value is an approached paper."""
    _, fraction, u, v, numbers = value
    grown = growth(book, graph, u, v)
    if not is_fraction(fraction) or grown is None:
        return False
    p, q = fraction
    return q * grown[0] == p * grown[1] and _do_show(graph, fraction, numbers, -1)


def is_ratio_paper(book, graph, value):
    """Whether the value is a reached paper or an approached paper."""
    if is_paper_of(value, "reached", 4):
        return _is_reached(book, graph, value)
    return is_paper_of(value, "approached", 5) and _is_approached(book, graph, value)
