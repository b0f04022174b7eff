"""What the papers about amounts and about fractions have in common."""

from cutbehind.base.signs import is_integer
from cutbehind.stands.steps import spent_behind, stand_behind


def is_paper_of(value, name, many):
    """Whether the value is a tuple of so many parts, of which the first is the name."""
    return isinstance(value, tuple) and len(value) == many and value[0] == name


def growth(cutter, u, v):
    """What is told and the least price, from the text u to uv, if both have the same stand; else None."""
    book = cutter.book
    if not book.accepts(u) or not book.accepts(v) or v == "":
        return None
    if stand_behind(cutter, u) != stand_behind(cutter, u + v):
        return None
    told, least = spent_behind(cutter, u)
    more_told, more_least = spent_behind(cutter, u + v)
    return more_told - told, more_least - least


def do_rise(graph, numbers, p, q):
    """Whether the integers are at least what the steps between their stands ask for."""
    for stand, steps in zip(graph.stands, graph.steps):
        if stand not in numbers:
            continue
        for target, price, change in steps:
            if numbers[graph.stands[target]] < numbers[stand] + q * price - p * change:
                return False
    return True


def are_at_most(graph, numbers, q, most):
    """Whether each integer plus q times the end price is at most as told."""
    for stand, price in zip(graph.stands, graph.end_prices):
        if stand in numbers and numbers[stand] + q * price > most:
            return False
    return True


def are_integers(numbers):
    """Whether all values of the dict are integers."""
    return all([is_integer(number) for number in numbers.values()])
