"""What each guest has to pay, and what it gains by what it says."""

from truebid.changing import all_but
from truebid.givings import best, most, worth_of


# An only guest leaves no rows, for which nothing can be worth anything: it pays 0.
def due_of(sale, giving, guest):
    others = all_but(sale, guest)
    return most(others) - worth_of(others, all_but(giving, guest))


def due(sale):
    giving = best(sale)
    return tuple([due_of(sale, giving, guest) for guest in range(len(sale))])


def with_said(sale, guest, said):
    return tuple([said if place == guest else row for place, row in enumerate(sale)])


def gain(sale, guest, said):
    other = with_said(sale, guest, said)
    giving = best(other)
    given = giving[guest]
    worth = 0 if given is None else sale[guest][given]
    return worth - due_of(other, giving, guest)
