"""Sales, and things that are none, for the tests, and how a thing is asked there."""

import functools
import itertools
import unittest


class Told(unittest.TestCase):
    """Asks each thing twice: the answers are the same, and what was handed in is as it was."""

    def asked(self, ask, *things):
        # repr tells True from 1 and a list from a tuple, and it is kept when a list is changed.
        before = repr(things)
        answer = ask(*things)
        first = repr(answer)
        self.assertEqual(repr(ask(*things)), first)
        self.assertEqual(repr(things), before)
        return answer

    def told(self, expected, ask, *things):
        with self.subTest(ask=ask.__name__, things=things):
            self.assertEqual(repr(self.asked(ask, *things)), repr(expected))

    def refused(self, refusal, ask, *things):
        before = repr(things)
        for _ in range(2):
            try:
                answer = ask(*things)
            except Exception as error:
                self.assertIs(type(error), refusal)
            else:
                self.fail(f"answered {answer!r}")
        self.assertEqual(repr(things), before)


def nested_tuple(depth, innermost):
    thing = innermost
    for _ in range(depth):
        thing = (thing,)
    return thing


def nested_list(depth, innermost):
    thing = innermost
    for _ in range(depth):
        thing = [thing]
    return thing


# Each sale with its writing.
WRITINGS = (
    (((0,),), "0"),
    (((7,),), "7"),
    (((1000000,),), "1000000"),
    (((10, 200, 3000),), "10 200 3000"),
    (((5,), (0,), (90,)), "5 ; 0 ; 90"),
    (((3, 5), (2, 4)), "3 5 ; 2 4"),
    (((0, 1000000), (1000000, 0), (8, 8)), "0 1000000 ; 1000000 0 ; 8 8"),
    (((1, 2, 3, 4, 5, 6),), "1 2 3 4 5 6"),
    (((1,), (2,), (3,), (4,), (5,), (6,)), "1 ; 2 ; 3 ; 4 ; 5 ; 6"),
    (((0,) * 6,) * 6, " ; ".join(["0 0 0 0 0 0"] * 6)),
    (((1000000,) * 6,) * 6, " ; ".join([" ".join(["1000000"] * 6)] * 6)),
)

SALES = tuple(sale for sale, _ in WRITINGS)


def sales_with_bid(bid):
    """Shapes of a sale in which one bid is the given one: alone, first, in the midst, last."""
    return (
        ((bid,),),
        ((bid, 2), (3, 4)),
        ((1, 2), (bid, 4), (5, 6)),
        ((1, 2), (3, bid)),
    )


def no_tuples():
    """Things of every kind but a tuple."""
    return (
        0, 1, -1, 10 ** 30, True, False, None, "", "0", "3 5 ; 2 4",
        [], [[]], [1], [None], ["1"], [(1,)], [[1]], [[3, 5], [2, 4]], [(3, 5), (2, 4)],
        nested_list(30, 1), nested_list(30, ()), [nested_tuple(30, 1)],
    )


def no_numbers():
    """Things of every kind but a whole number or None."""
    return (
        True, False, "", "0", "1", "a", (), (0,), (1,), (None,), [], [0], [1], [None],
        nested_tuple(30, 1), nested_list(30, 1),
    )


def no_sales():
    """Every sort of what is no sale, made anew at each call, as lists are among it."""
    things = list(no_tuples())
    things += [
        (),
        ((1,),) * 7,
        ((1, 2),) * 8,
        ((),),
        ((), ()),
        ((1,), ()),
        ((), (1,)),
        ((1,) * 7,),
        ((1,) * 7,) * 2,
        ((1,) * 6, (1,) * 7),
        ((1, 2), (3,)),
        ((1,), (2, 3)),
        ((1, 2), (3, 4), (5,)),
        ((1, 2), (3, 4), (5, 6, 7)),
        ([1],),
        ([1, 2], (3, 4)),
        ((1, 2), [3, 4]),
        ([],),
        (1,),
        (1, 2),
        ((1,), 2),
        (None,),
        ((1,), None),
        (True,),
        ("",),
        ("1",),
        ("12", "34"),
        ((1, 2), "34"),
        nested_tuple(30, 1),
        nested_tuple(30, ()),
        (nested_list(30, 1),),
    ]
    for bid in (-1, -1000000, 1000001, 10 ** 30, -10 ** 30, None) + no_numbers():
        things += sales_with_bid(bid)
    return things


SHAPES = tuple(itertools.product(range(1, 7), range(1, 7)))

# Guests, things and the greatest bid, few enough to try every such sale.
SMALL_SHAPES = ((1, 1, 6), (1, 2, 4), (2, 1, 4), (2, 2, 3), (1, 3, 3), (3, 1, 3), (2, 3, 1), (3, 2, 1))


def all_sales(guests, things, greatest_bid):
    """Every sale of this shape with bids from 0 to the given one."""
    rows = list(itertools.product(range(greatest_bid + 1), repeat=things))
    return list(itertools.product(rows, repeat=guests))


def mixed_sales(guests, things, greatest_bid, count):
    """Some sales of this shape with bids from 0 to the given one, the same at each call."""
    sales = []
    state = guests * 1009 + things * 9176 + greatest_bid * 31 + 7
    for _ in range(count):
        bids = []
        for _ in range(guests * things):
            state = (state * 6364136223846793005 + 1442695040888963407) % 2 ** 64
            bids.append((state >> 33) % (greatest_bid + 1))
        sales.append(tuple(tuple(bids[k * things:(k + 1) * things]) for k in range(guests)))
    return sales


@functools.cache
def small_sales():
    """Sales that are small enough to try all their givings, prices and rows."""
    sales = []
    for guests, things, greatest_bid in SMALL_SHAPES:
        sales += all_sales(guests, things, greatest_bid)
    for guests, things, count in (
        (2, 3, 100), (3, 2, 100), (4, 2, 40), (2, 4, 15), (3, 3, 60), (5, 1, 20), (6, 1, 20), (1, 4, 10),
    ):
        for greatest_bid in (1, 2, 3):
            sales += mixed_sales(guests, things, greatest_bid, count)
    return sales


def all_prices(sale):
    """All prices from 0 to one above every bid; as nobody wants a thing at such a price, higher ones are alike."""
    return itertools.product(range(max(max(row) for row in sale) + 2), repeat=len(sale[0]))


def all_rows(sale, greatest_bid):
    """Every row for a guest of the sale with bids from 0 to the given one."""
    return list(itertools.product(range(greatest_bid + 1), repeat=len(sale[0])))


def all_givings(sale):
    """Every giving of the sale."""
    givings = [()]
    for _ in sale:
        givings = [
            giving + (thing,)
            for giving in givings
            for thing in (None, *range(len(sale[0])))
            if thing is None or thing not in giving
        ]
    return givings
