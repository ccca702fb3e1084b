"""Sales read from their texts."""

from truebid.errors import NoText
from truebid.things import MOST_BID, is_sale
from truebid.writing import written


# The length is asked first: Python refuses to make a number of very many figures.
def is_bid_word(word):
    if not 1 <= len(word) <= len(str(MOST_BID)):
        return False
    return all([sign in "0123456789" for sign in word])


def bid_read(word):
    if not is_bid_word(word):
        raise NoText("a bid is not written in figures, or in too many")
    return int(word)


def row_read(part):
    return tuple([bid_read(word) for word in part.split(" ")])


def read(text):
    sale = tuple([row_read(part) for part in text.split(" ; ")])
    # A nought ahead of other figures is lost in reading, so the writing is held against the text.
    if not is_sale(sale) or written(sale) != text:
        raise NoText("the text is the writing of no sale")
    return sale
