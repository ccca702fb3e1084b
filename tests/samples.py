"""Sales, and things that are none, for the tests."""


def nested_tuple(depth, innermost):
    thing = innermost
    for _ in range(depth):
        thing = (thing,)
    return thing


def nested_list(depth, innermost):
    thing = innermost
    for _ in range(depth):
        thing = [thing]
    return thing


# Each sale with its writing.
WRITINGS = (
    (((0,),), "0"),
    (((7,),), "7"),
    (((1000000,),), "1000000"),
    (((10, 200, 3000),), "10 200 3000"),
    (((5,), (0,), (90,)), "5 ; 0 ; 90"),
    (((3, 5), (2, 4)), "3 5 ; 2 4"),
    (((0, 1000000), (1000000, 0), (8, 8)), "0 1000000 ; 1000000 0 ; 8 8"),
    (((1, 2, 3, 4, 5, 6),), "1 2 3 4 5 6"),
    (((1,), (2,), (3,), (4,), (5,), (6,)), "1 ; 2 ; 3 ; 4 ; 5 ; 6"),
    (((0,) * 6,) * 6, " ; ".join(["0 0 0 0 0 0"] * 6)),
    (((1000000,) * 6,) * 6, " ; ".join([" ".join(["1000000"] * 6)] * 6)),
)

SALES = tuple(sale for sale, _ in WRITINGS)


def sales_with_bid(bid):
    """Shapes of a sale in which one bid is the given one: alone, first, in the midst, last."""
    return (
        ((bid,),),
        ((bid, 2), (3, 4)),
        ((1, 2), (bid, 4), (5, 6)),
        ((1, 2), (3, bid)),
    )


def no_tuples():
    """Things of every kind but a tuple."""
    return (
        0, 1, -1, 10 ** 30, True, False, None, "", "0", "3 5 ; 2 4",
        [], [[]], [1], [None], ["1"], [(1,)], [[1]], [[3, 5], [2, 4]], [(3, 5), (2, 4)],
        nested_list(30, 1), nested_list(30, ()), [nested_tuple(30, 1)],
    )


def no_numbers():
    """Things of every kind but a whole number or None."""
    return (
        True, False, "", "0", "1", "a", (), (0,), (1,), (None,), [], [0], [1], [None],
        nested_tuple(30, 1), nested_list(30, 1),
    )


def no_sales():
    """Every sort of what is no sale, made anew at each call, as lists are among it."""
    things = list(no_tuples())
    things += [
        (),
        ((1,),) * 7,
        ((1, 2),) * 8,
        ((),),
        ((), ()),
        ((1,), ()),
        ((), (1,)),
        ((1,) * 7,),
        ((1,) * 7,) * 2,
        ((1,) * 6, (1,) * 7),
        ((1, 2), (3,)),
        ((1,), (2, 3)),
        ((1, 2), (3, 4), (5,)),
        ((1, 2), (3, 4), (5, 6, 7)),
        ([1],),
        ([1, 2], (3, 4)),
        ((1, 2), [3, 4]),
        ([],),
        (1,),
        (1, 2),
        ((1,), 2),
        (None,),
        ((1,), None),
        (True,),
        ("",),
        ("1",),
        ("12", "34"),
        ((1, 2), "34"),
        nested_tuple(30, 1),
        nested_tuple(30, ()),
        (nested_list(30, 1),),
    ]
    for bid in (-1, -1000000, 1000001, 10 ** 30, -10 ** 30, None) + no_numbers():
        things += sales_with_bid(bid)
    return things
