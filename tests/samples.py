"""Values that several tests use."""

from itertools import combinations, product

from cutbehind.base.books import Book
from cutbehind.errors import CutError, TooMany

ABBA = Book({"a": 1, "b": 1, "ab": 1, "bba": 1})
ODD = Book({"x": 1, "a": 9, "b": 9, "xa": 1, "aa": 1, "ab": 1})
EIGHT = Book({"x": 1, "a": 9, "xa": 1, "aa": 1, "ax": 1})
NINE = Book({"a": 9, "aa": 2, "aaa": 2})

# None of these is a text, a price, a book, or a tuple of pieces of a book.
STRANGE = (
    True, False, None, -1, 0, 100, 10 ** 60, -(10 ** 60), 10 ** 99,
    "A", "aB", "a b", " ", "a\n", "\n", "1", "a1", "_", "-", "a" * 8001, "~" * 9000,
    [], ["a"], [[]], {}, {"a": "a"}, {"a": [1]}, {1: 1}, {None: {}},
    (1,), (None,), ("A",), ([],), ({},), (("a", 1),), ("a", "a", "a"),
    ((((((((1,),),),),),),),), [[[[[[[{}]]]]]]], CutError("message"), TooMany(3),
)


def all_cuts(pieces, text):
    """All cuts of a text, listed plainly."""
    if text == "":
        return [()]
    cuts = []
    for piece in pieces:
        if text.startswith(piece):
            cuts += [(piece,) + rest for rest in all_cuts(pieces, text[len(piece):])]
    return cuts


def plain_price(prices, text):
    """The least price of all cuts, each of which is added up."""
    return min(sum(prices[piece] for piece in cut) for cut in all_cuts(list(prices), text))


def all_texts(alphabet, most):
    """All texts over the alphabet of at most so many signs, the empty one too."""
    return ["".join(signs) for many in range(most + 1) for signs in product(alphabet, repeat=many)]


def small_books():
    """The prices of many small books over a and b."""
    longer = ("aa", "ab", "ba", "bb", "aab", "abb", "aba", "bbaa", "abab", "aabba")
    found = []
    for many in range(4):
        for number, chosen in enumerate(combinations(longer, many)):
            singles = {"a": 1 + number % 3, "b": 1 + number // 3 % 3}
            worth = {piece: 1 + (number + 2 * index) % 5 for index, piece in enumerate(chosen)}
            found.append({**singles, **worth})
    return found
