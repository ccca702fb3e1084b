"""What is a sale, a giving of a sale, and prices for a sale's things."""

MOST_GUESTS = 6
MOST_THINGS = 6
MOST_BID = 1000000
MOST_PRICE = 10000000


# Python counts True and False among the ints; the program does not.
def is_whole(thing):
    return isinstance(thing, int) and not isinstance(thing, bool)


def is_whole_up_to(thing, most):
    return is_whole(thing) and 0 <= thing <= most


def is_row(thing):
    if not isinstance(thing, tuple) or not 1 <= len(thing) <= MOST_THINGS:
        return False
    return all([is_whole_up_to(bid, MOST_BID) for bid in thing])


def is_sale(thing):
    if not isinstance(thing, tuple) or not 1 <= len(thing) <= MOST_GUESTS:
        return False
    if not all([is_row(row) for row in thing]):
        return False
    return all([len(row) == len(thing[0]) for row in thing])


# A sale somewhat out of bounds is not refused, so one without rows is answered too.
def thing_count(sale):
    return len(sale[0]) if len(sale) > 0 else 0


def is_giving(thing, sale):
    if not isinstance(thing, tuple) or len(thing) != len(sale):
        return False
    given = [part for part in thing if part is not None]
    last = thing_count(sale) - 1
    if not all([is_whole_up_to(number, last) for number in given]):
        return False
    # Only whole numbers are left by now: a list could not stand in a set, and True would count as 1.
    return len(set(given)) == len(given)


def are_prices(thing, sale):
    if not isinstance(thing, tuple) or len(thing) != thing_count(sale):
        return False
    return all([is_whole_up_to(price, MOST_PRICE) for price in thing])
