"""Values that several tests use."""

from itertools import combinations, product

from cutbehind.base.books import Book
from cutbehind.cuts.cutters import Cutter
from cutbehind.errors import CutError, TooMany
from cutbehind.stands.stands import end_price, next_stand

ABBA = Book({"a": 1, "b": 1, "ab": 1, "bba": 1})
ODD = Book({"x": 1, "a": 9, "b": 9, "xa": 1, "aa": 1, "ab": 1})
EIGHT = Book({"x": 1, "a": 9, "xa": 1, "aa": 1, "ax": 1})
NINE = Book({"a": 9, "aa": 2, "aaa": 2})

HASTY = Cutter.longest_first(ABBA)
SEEING = Cutter(ABBA, ("ab", "a", "bba", "b"), view=4, table={"abba": "a"})
LONGEST_EIGHT = Cutter.longest_first(EIGHT)
LONGEST_NINE = Cutter.longest_first(NINE)

# Behind by 2 on aa, and by less on each longer text.
EARLY = Cutter(Book({"a": 1, "aa": 4, "aaa": 4}), ("aa", "a", "aaa"), view=4, table={"aaa": "a"}, ends={"aaa": "aaa"})

# A book with more than 2000 fronts, and with pieces that have more than 2000 besides.
RICH = Book({
    "a": 95, "aaa": 38, "aab": 61, "abaa": 18, "aca": 53, "accc": 27, "b": 46, "bca": 74, "c": 89, "cab": 39,
    "cbaaa": 1, "ccaba": 84,
})

# These have exactly 2000 and exactly 2001 fronts. With the first, baaa has 2000 besides at which it is not lost; with
# the second, c has 2001.
WITH_2000 = Book({"a": 18, "aaabb": 3, "aabb": 2, "ab": 17, "b": 1, "baaa": 2, "bab": 11, "baba": 13})
WITH_2001 = Book({"a": 8, "aab": 4, "abbca": 4, "b": 5, "baa": 2, "bcc": 6, "c": 1})

# None of these is a text, a price, a book, or a tuple of pieces of a book.
STRANGE = (
    True, False, None, -1, 0, 100, 10 ** 60, -(10 ** 60), 10 ** 99,
    "A", "aB", "a b", " ", "a\n", "\n", "1", "a1", "_", "-", "a" * 8001, "~" * 9000,
    [], ["a"], [[]], {}, {"a": "a"}, {"a": [1]}, {1: 1}, {None: {}},
    (1,), (None,), ("A",), ([],), ({},), (("a", 1),), ("a", "a", "a"),
    ((((((((1,),),),),),),),), [[[[[[[{}]]]]]]], CutError("message"), TooMany(3),
)
NO_BOOKS = STRANGE + (1, (), "", "a", ABBA.prices, ABBA.pieces, HASTY)
NO_CUTTERS = STRANGE + (1, (), "", "a", ABBA, HASTY.order, str(HASTY))
# No texts over ABBA.
NO_TEXTS = STRANGE + (1, (), ("a",), ABBA, HASTY, "c", "abc", "cab", "a" * 8000 + "b")


def all_cuts(pieces, text):
    """All cuts of a text, listed plainly."""
    if text == "":
        return [()]
    cuts = []
    for piece in pieces:
        if text.startswith(piece):
            cuts += [(piece,) + rest for rest in all_cuts(pieces, text[len(piece):])]
    return cuts


def plain_price(prices, text):
    """The least price of all cuts, each of which is added up."""
    return min(sum(prices[piece] for piece in cut) for cut in all_cuts(list(prices), text))


def all_texts(alphabet, most):
    """All texts over the alphabet of at most so many signs, the empty one too."""
    return ["".join(signs) for many in range(most + 1) for signs in product(alphabet, repeat=many)]


def plain_loss(prices, text, piece):
    """The loss of a piece at a text, by listing all cuts."""
    return prices[piece] + plain_price(prices, text[len(piece):]) - plain_price(prices, text)


def beginnings(text):
    """The beginnings of the text, from the empty one on."""
    return [text[:end] for end in range(len(text) + 1)]


def small_books():
    """The prices of many small books over a and b."""
    longer = ("aa", "ab", "ba", "bb", "aab", "abb", "aba", "bbaa", "abab", "aabba")
    found = []
    for many in range(4):
        for number, chosen in enumerate(combinations(longer, many)):
            singles = {"a": 1 + number % 3, "b": 1 + number // 3 % 3}
            worth = {piece: 1 + (number + 2 * index) % 5 for index, piece in enumerate(chosen)}
            found.append({**singles, **worth})
    return found


def small_cutters():
    """Many small cutters, with views around the longest piece, with tables and ends and without."""
    found = []
    windows = [text for text in all_texts("ab", 4) if text]
    for number, prices in enumerate(small_books()[::5]):
        book = Book(prices)
        orders = (book.pieces, book.pieces[::-1], Cutter.longest_first(book).order, Cutter.shortest_first(book).order)
        view = 1 + number % 5
        table = {text: book.starting(text)[-1] for text in windows[number % 7::3] if len(text) <= view}
        ends = {text: book.starting(text)[0] for text in windows[number % 5::2] if len(text) < view}
        found.append(Cutter(book, orders[number % 4], view=view))
        found.append(Cutter(book, orders[number % 4], view=view, table=table, ends=ends))
    return found


def steps_of(cutter, stands):
    """For each of the stands, what a further sign gives: the next stand, the price and the change of D."""
    return {stand: [next_stand(cutter, stand, sign) for sign in cutter.book.alphabet] for stand in stands}


def greatest_numbers(cutter, stands, p, q, most):
    """The greatest integers that a paper with these weights can have, by what can still follow each stand."""
    steps = steps_of(cutter, stands)
    ahead = {stand: q * end_price(cutter, stand) for stand in stands}
    changed = True
    while changed:
        changed = False
        for stand in stands:
            found = max(q * price - p * change + ahead[further] for further, price, change in steps[stand])
            if found > ahead[stand]:
                ahead[stand] = found
                changed = True
    return {stand: most - ahead[stand] for stand in stands}
