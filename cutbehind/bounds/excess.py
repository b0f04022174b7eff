"""How far a cutter falls behind the cheapest cut, for all texts."""

from cutbehind.bounds.amounts import amount_paper, greatest_amount, is_amount_paper
from cutbehind.stands.stands import graph_of


def excess_paper(cutter):
    """A bound paper or a ring paper."""
    return amount_paper(graph_of(cutter))


def is_excess_paper(cutter, value):
    """Whether the value is a bound paper or a ring paper of the cutter."""
    graph = graph_of(cutter)
    return is_amount_paper(cutter.book, graph, value)


def greatest_excess(cutter):
    """The greatest amount by which the cutter is behind on a text, or None if there is none."""
    return greatest_amount(graph_of(cutter))[0]


def is_never_behind(cutter):
    """Whether the cutter is behind on no text."""
    return greatest_excess(cutter) == 0


def worst_text(cutter):
    """A text on which the cutter is behind by the greatest amount, or None if there is none."""
    return greatest_amount(graph_of(cutter))[1]
