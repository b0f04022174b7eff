"""Least prices of texts over a book, of any length."""


def prices_of_beginnings(book, text):
    """The least price of each beginning of the text, from the empty one to the whole text."""
    prices = book.prices
    least = [0]
    for place, sign in enumerate(text):
        end = place + 1
        best = least[place] + prices[sign]
        for piece, many, price in book.ending[sign]:
            if text.endswith(piece, 0, end) and least[end - many] + price < best:
                best = least[end - many] + price
        least.append(best)
    return least


def prices_of_rests(book, text):
    """The least price of what is left from each place on, from the whole text to the empty one."""
    prices = book.prices
    least = [0] * (len(text) + 1)
    for place in range(len(text) - 1, -1, -1):
        best = least[place + 1] + prices[text[place]]
        for piece, many, price in book.heading[text[place]]:
            if text.startswith(piece, place) and least[place + many] + price < best:
                best = least[place + many] + price
        least[place] = best
    return least
