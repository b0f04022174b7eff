"""What the papers about amounts and about fractions have in common, whatever the nodes of the graph are."""

from cutbehind.base.signs import are_integers


def is_paper_of(value, name, many):
    """Whether the value is a tuple of so many parts, of which the first is the name."""
    return isinstance(value, tuple) and len(value) == many and value[0] == name


def growth(book, graph, u, v):
    """What both sides pay from the text u to uv, if both texts lead to the same place; else None."""
    if not book.accepts(u) or not book.accepts(v) or v == "":
        return None
    place, one, other = graph.walk(u)
    further, more_one, more_other = graph.walk(u + v)
    if place != further:
        return None
    return more_one - one, more_other - other


def numbers_at(graph, places, numbers):
    """A list of the integer of each place, if the value is a dict from just the nodes of these places; else None.

    The integer is None for every other place.
    """
    if not isinstance(numbers, dict) or len(numbers) != len(places) or not are_integers(list(numbers.values())):
        return None
    found = [None] * len(graph.nodes)
    for place in places:
        if graph.nodes[place] not in numbers:
            return None
        found[place] = numbers[graph.nodes[place]]
    # True and 1 are one key of a dict, but only 1 is an integer.
    return None if graph.have_booleans(list(numbers)) else found


def do_hold(graph, found, p, q, most):
    """Whether the integers of the places rise as the weights of the steps ask for, and stay below most at each end."""
    finals = graph.final_weights(p, q)
    for place, row in enumerate(graph.weights(p, q)):
        number = found[place]
        if number is None:
            continue
        if number + finals[place] > most:
            return False
        for target, weight in row:
            if found[target] < number + weight:
                return False
    return True


def node_numbers(graph, sums):
    """A dict from the nodes of the places to the integers of the places, ascending."""
    places = [(node, graph.places[node]) for node in graph.ascending()]
    return {node: sums[place] for node, place in places if place in sums}
