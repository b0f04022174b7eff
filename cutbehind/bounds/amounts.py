"""By how much the one side pays more than the other, for all texts: bound papers and ring papers."""

from cutbehind.base.signs import is_integer
from cutbehind.bounds.ascents import Ascent
from cutbehind.bounds.papers import do_hold, growth, is_paper_of, node_numbers, numbers_at


def _find_amount(graph):
    """The kind of the paper, with the number, a text and the sums, or with the texts of a ring."""
    ascent = Ascent(graph, 1, 1)
    if ascent.ring is not None:
        return ("ring",) + ascent.ring_texts()
    number, place = ascent.best()
    # The empty text counts for the first place. Without a ring no other text to it has a greater sum.
    sums = {**ascent.sums, 0: 0}
    if number < 0:
        return "bound", 0, "", sums
    return "bound", number, ascent.text_to(place), sums


def _amount_of(graph):
    if "amount" not in graph.kept:
        graph.kept["amount"] = _find_amount(graph)
    return graph.kept["amount"]


def amount_paper(graph):
    """A bound paper or a ring paper."""
    found = _amount_of(graph)
    if found[0] == "ring":
        return found
    kind, number, text, sums = found
    return kind, number, text, node_numbers(graph, sums)


def greatest_amount(graph):
    """The greatest amount and a text that has it, or None and None if there is none."""
    found = _amount_of(graph)
    return (None, None) if found[0] == "ring" else (found[1], found[2])


def _is_bound(book, graph, value):
    """Whether the value is a bound paper."""
    _, number, text, numbers = value
    if not is_integer(number) or not book.accepts(text):
        return False
    one, other = graph.paid(text)
    if one - other != number:
        return False
    found = numbers_at(graph, list(range(len(graph.nodes))), numbers)
    return found is not None and found[0] >= 0 and do_hold(graph, found, 1, 1, number)


def is_amount_paper(book, graph, value):
    """Whether the value is a bound paper or a ring paper."""
    if is_paper_of(value, "bound", 4):
        return _is_bound(book, graph, value)
    if not is_paper_of(value, "ring", 3):
        return False
    grown = growth(book, graph, value[1], value[2])
    return grown is not None and grown[0] > grown[1]
