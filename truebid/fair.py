"""Prices that are fair with a giving, the least of them and the greatest."""

from truebid.changing import thing_left_out, thing_put_behind
from truebid.givings import most
from truebid.things import thing_count


def gain_by(row, prices, thing):
    return 0 if thing is None else row[thing] - prices[thing]


# The 0 is the gain by None, which every guest may choose.
def greatest_gain(row, prices):
    return max([0] + [bid - price for bid, price in zip(row, prices)])


def is_fair(sale, giving, prices):
    for row, thing in zip(sale, giving):
        if gain_by(row, prices, thing) < greatest_gain(row, prices):
            return False
    return all([price == 0 for thing, price in enumerate(prices) if thing not in giving])


def with_another_like(sale, thing):
    return thing_put_behind(sale, [row[thing] for row in sale])


# At fair prices no giving is worth more than all gains and prices together. So another thing like
# this one adds at most its price to the worth, and the least fair price is just what it adds.
def least(sale):
    worth = most(sale)
    return tuple([most(with_another_like(sale, thing)) - worth for thing in range(thing_count(sale))])


# For the same reason the worth falls at least by a thing's price when the thing is left out,
# and the greatest fair price is just what is lost.
def greatest(sale):
    worth = most(sale)
    return tuple([worth - most(thing_left_out(sale, thing)) for thing in range(thing_count(sale))])
