"""How far a cutter falls behind the cheapest cut, for all texts."""

from cutbehind.base.signs import is_integer
from cutbehind.bounds.ascents import Ascent
from cutbehind.bounds.papers import are_at_most, are_integers, do_rise, growth, is_paper_of
from cutbehind.stands.graph import Graph


def _is_bound(cutter, graph, value):
    """Whether the value is a bound paper."""
    _, number, text, numbers = value
    if not is_integer(number) or not cutter.book.accepts(text) or cutter.behind(text) != number:
        return False
    if not graph.are_keys(graph.all_places(), numbers) or not are_integers(numbers):
        return False
    if numbers[graph.stands[0]] < 0:
        return False
    return do_rise(graph, numbers, 1, 1) and are_at_most(graph, numbers, 1, number)


def _is_ring(cutter, u, v):
    """Whether these texts make a ring paper."""
    grown = growth(cutter, u, v)
    return grown is not None and grown[0] > grown[1]


def excess_paper(cutter):
    """A bound paper or a ring paper."""
    graph = Graph(cutter)
    ascent = Ascent(graph, 1, 1)
    if ascent.ring is not None:
        u, v = ascent.ring_texts()
        return ("ring", u, v)
    number, place = ascent.best(1)
    # The empty text counts for the first stand. Without a ring no other text to it has a greater sum.
    sums = {**ascent.sums, 0: 0}
    numbers = {stand: sums[graph.places[stand]] for stand in sorted(graph.stands)}
    return ("bound", number, ascent.text_to(place), numbers)


def is_excess_paper(cutter, value):
    """Whether the value is a bound paper or a ring paper of the cutter."""
    graph = Graph(cutter)
    if is_paper_of(value, "bound", 4):
        return _is_bound(cutter, graph, value)
    return is_paper_of(value, "ring", 3) and _is_ring(cutter, value[1], value[2])


def greatest_excess(cutter):
    """The greatest amount by which the cutter is behind on a text, or None if there is none."""
    paper = excess_paper(cutter)
    return paper[1] if paper[0] == "bound" else None


def is_never_behind(cutter):
    """Whether the cutter is behind on no text."""
    return greatest_excess(cutter) == 0


def worst_text(cutter):
    """A text on which the cutter is behind by the greatest amount, or None if there is none."""
    paper = excess_paper(cutter)
    return paper[2] if paper[0] == "bound" else None
