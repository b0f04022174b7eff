"""Least prices of texts over a book, of any length."""


def prices_of_beginnings(book, text):
    """The least price of each beginning of the text, from the empty one to the whole text."""
    prices = book.prices
    least = [0]
    for end in range(1, len(text) + 1):
        last = [piece for piece in prices if text.endswith(piece, 0, end)]
        least.append(min([least[end - len(piece)] + prices[piece] for piece in last]))
    return least


def prices_of_rests(book, text):
    """The least price of what is left from each place on, from the whole text to the empty one."""
    prices = book.prices
    least = [0] * (len(text) + 1)
    for place in range(len(text) - 1, -1, -1):
        following = [piece for piece in prices if text.startswith(piece, place)]
        least[place] = min([prices[piece] + least[place + len(piece)] for piece in following])
    return least
