"""The least fraction by which a cutter is dearer than the cheapest cut, for all texts."""

from cutbehind.bounds.ratios import is_fraction, is_ratio_paper, least_ratio, ratio_paper
from cutbehind.cuts.cutters import check_cutter
from cutbehind.errors import InvalidOperation
from cutbehind.stands.stands import graph_of


def fraction_of(cutter):
    """The least fraction of the cutter."""
    graph = graph_of(cutter)
    return least_ratio(cutter.book, graph)


def fraction_paper(cutter):
    """A reached paper or an approached paper."""
    graph = graph_of(cutter)
    return ratio_paper(cutter.book, graph)


def is_fraction_paper(cutter, value):
    """Whether the value is a reached paper or an approached paper of the cutter."""
    graph = graph_of(cutter)
    return is_ratio_paper(cutter.book, graph, value)


def is_within_fraction(cutter, fraction):
    """Whether the cutter is never dearer than the cheapest cut by more than the fraction."""
    check_cutter(cutter)
    if not is_fraction(fraction):
        raise InvalidOperation("a fraction is a pair of integers of at least 1 in lowest terms")
    p, q = fraction_of(cutter)
    return p * fraction[1] <= fraction[0] * q
