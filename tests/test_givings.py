import unittest

from tests.samples import SALES, SHAPES, SMALL_SHAPES, Told, all_givings, all_sales, mixed_sales
from truebid.givings import best, most, worth_of
from truebid.things import is_giving

TALL = ((3, 5), (2, 4), (0, 1000000))
WIDE = ((3, 5, 1), (2, 4, 0))


def bids_added(sale, giving):
    worth = 0
    for guest in range(len(sale)):
        if giving[guest] is not None:
            worth += sale[guest][giving[guest]]
    return worth


class WorthOf(Told):
    def test_worths(self):
        for giving, worth in (
            ((None, None, None), 0), ((0, None, None), 3), ((1, None, None), 5), ((None, 0, None), 2),
            ((None, None, 1), 1000000), ((0, 1, None), 7), ((1, 0, None), 7), ((None, 1, 0), 4),
            ((0, None, 1), 1000003), ((None, None, 0), 0),
        ):
            self.told(worth, worth_of, TALL, giving)
        for giving, worth in (((None, None), 0), ((0, 1), 7), ((1, 0), 7), ((2, 1), 5), ((1, 2), 5), ((None, 2), 0)):
            self.told(worth, worth_of, WIDE, giving)

    def test_one_guest_one_thing(self):
        for bid in (0, 1, 1000000):
            self.told(bid, worth_of, ((bid,),), (0,))
            self.told(0, worth_of, ((bid,),), (None,))

    def test_none_for_all_in_every_shape(self):
        for guests, things in SHAPES:
            self.told(0, worth_of, ((4,) * things,) * guests, (None,) * guests)

    def test_six_by_six(self):
        self.told(6000000, worth_of, ((1000000,) * 6,) * 6, (5, 4, 3, 2, 1, 0))
        self.told(3000000, worth_of, ((1000000,) * 6,) * 6, (None, 4, None, 2, None, 0))

    def test_every_giving_of_mixed_sales(self):
        for guests, things in ((1, 4), (4, 1), (2, 3), (3, 2), (3, 3)):
            for sale in mixed_sales(guests, things, 1000000, 3):
                for giving in all_givings(sale):
                    self.told(bids_added(sale, giving), worth_of, sale, giving)

    def test_argument_names(self):
        self.assertEqual(worth_of(sale=((7,),), giving=(0,)), 7)


class Best(Told):
    """Held against every giving of a sale."""

    def held(self, sale):
        with self.subTest(sale=sale):
            giving = self.asked(best, sale)
            self.assertIs(is_giving(giving, sale), True)
            worth = max([bids_added(sale, other) for other in all_givings(sale)])
            self.assertEqual(bids_added(sale, giving), worth)
            self.assertEqual(worth_of(sale, giving), worth)
            self.assertEqual(repr(self.asked(most, sale)), repr(worth))

    def test_known_sales(self):
        for sale, giving in (
            (((7,),), (0,)),
            (((1, 9, 3),), (1,)),
            (((1,), (9,), (3,)), (None, 0, None)),
            (((3, 5), (2, 1)), (1, 0)),
            (((9, 8), (8, 1)), (1, 0)),
            (TALL, (0, None, 1)),
        ):
            self.told(giving, best, sale)

    def test_known_worths(self):
        for sale, worth in (
            (((0,),), 0), (((7,),), 7), (((1000000,),), 1000000), (((1, 9, 3),), 9), (((1,), (9,), (3,)), 9),
            (((3, 5), (2, 4)), 7), (((9, 8), (8, 1)), 16), (TALL, 1000003), (WIDE, 7),
            (((0,) * 6,) * 6, 0), (((1000000,) * 6,) * 6, 6000000), (((5, 5),) * 6, 10), (((5,) * 6,) * 2, 10),
        ):
            self.told(worth, most, sale)

    def test_sales_of_the_samples(self):
        for sale in SALES + (TALL, WIDE):
            self.held(sale)

    def test_every_small_sale(self):
        for guests, things, greatest_bid in SMALL_SHAPES:
            for sale in all_sales(guests, things, greatest_bid):
                self.held(sale)

    def test_every_shape(self):
        for guests, things in SHAPES:
            count = 2 if guests + things > 9 else 12
            for greatest_bid in (0, 1, 3, 1000000):
                for sale in mixed_sales(guests, things, greatest_bid, count if greatest_bid else 1):
                    self.held(sale)

    def test_equal_bids_in_every_shape(self):
        for guests, things in SHAPES:
            for bid in (0, 5, 1000000):
                sale = ((bid,) * things,) * guests
                with self.subTest(sale=sale):
                    self.assertIs(is_giving(self.asked(best, sale), sale), True)
                    self.assertEqual(worth_of(sale, best(sale)), bid * min(guests, things))
                    self.assertEqual(self.asked(most, sale), bid * min(guests, things))

    def test_the_last_guest_takes_from_the_first(self):
        sale = ((10, 9, 0, 0, 0, 0), (0, 10, 9, 0, 0, 0), (0, 0, 10, 9, 0, 0),
                (0, 0, 0, 10, 9, 0), (0, 0, 0, 0, 10, 9), (10, 0, 0, 0, 0, 0))
        self.told(60 - 5, most, sale)
        self.told((1, 2, 3, 4, 5, 0), best, sale)

    def test_sales_somewhat_out_of_bounds_are_answered(self):
        self.told(7000007, most, ((1000001,) * 7,) * 7)
        self.told((0, 1, 2, 3, 4, 5, 6), best, tuple((0,) * k + (1000001,) + (0,) * (6 - k) for k in range(7)))
        self.told((None,), best, ((-1,),))
        self.told(0, most, ((-1,),))
        self.told((), best, ())
        self.told(0, most, ())
        self.told((None, None), best, ((), ()))

    def test_argument_names(self):
        self.assertEqual(best(sale=((7,),)), (0,))
        self.assertEqual(most(sale=((7,),)), 7)


if __name__ == "__main__":
    unittest.main()
