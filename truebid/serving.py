"""Guests served at some prices, or a crowd that wants too few things."""

from truebid.fair import gain_by, greatest_gain
from truebid.givings import best
from truebid.things import thing_count


def wanted(sale, prices, guest):
    row = sale[guest]
    top = greatest_gain(row, prices)
    if top == 0:
        return ()
    return tuple([thing for thing in range(len(row)) if gain_by(row, prices, thing) == top])


def all_wanted(sale, prices):
    return [wanted(sale, prices, guest) for guest in range(len(sale))]


def row_of_wishes(wish, count):
    return tuple([1 if thing in wish else 0 for thing in range(count)])


# Where each guest bids 1 for what it wants and 0 for the rest, a giving that is worth most gives
# as many guests as can be something that they want. It may give what is not wanted too: this is
# taken back.
def served(sale, prices):
    wishes = all_wanted(sale, prices)
    giving = best(tuple([row_of_wishes(wish, thing_count(sale)) for wish in wishes]))
    kept = tuple([thing if thing in wish else None for thing, wish in zip(giving, wishes)])
    if any([thing is None and wish != () for thing, wish in zip(kept, wishes)]):
        return None
    return kept


def all_choices(count):
    choices = [()]
    for thing in range(count):
        longer = [choice + (thing,) for choice in choices]
        choices = choices + longer
    return choices


def wants_only(wish, things):
    return wish != () and all([thing in things for thing in wish])


def is_crowd(things, wishes):
    return len([wish for wish in wishes if wants_only(wish, things)]) > len(things)


def pressed(sale, prices):
    wishes = all_wanted(sale, prices)
    for things in all_choices(thing_count(sale)):
        if is_crowd(things, wishes):
            return things
    return None
