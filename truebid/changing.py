"""Sales changed: with a guest or a thing more, without one, or with other numbers."""

from truebid.errors import NoRoom, NoSale
from truebid.things import MOST_GUESTS, MOST_THINGS, thing_count


def all_but(parts, number):
    return tuple([part for place, part in enumerate(parts) if place != number])


# Prices are found by sales with another thing or with one thing less, whatever their number of
# things: so the two that follow refuse nothing, and what comes of them may be no sale.
def thing_put_behind(sale, bids):
    return tuple([row + (bid,) for row, bid in zip(sale, bids)])


def thing_left_out(sale, thing):
    return tuple([all_but(row, thing) for row in sale])


def with_guest(sale, row):
    if len(sale) >= MOST_GUESTS:
        raise NoRoom("there is no room for another guest")
    return sale + (row,)


def with_thing(sale, bids):
    if thing_count(sale) >= MOST_THINGS:
        raise NoRoom("there is no room for another thing")
    return thing_put_behind(sale, bids)


def without_guest(sale, guest):
    if len(sale) == 1:
        raise NoSale("without its only guest it is no sale")
    return all_but(sale, guest)


def without_thing(sale, thing):
    if thing_count(sale) == 1:
        raise NoSale("without its only thing it is no sale")
    return thing_left_out(sale, thing)


# The new numbers tell where each part goes; asked here is the reverse, which part comes to a place.
def moved(parts, numbers):
    return tuple([parts[numbers.index(place)] for place in range(len(parts))])


def renamed(sale, guests, things):
    return moved(tuple([moved(row, things) for row in sale]), guests)
