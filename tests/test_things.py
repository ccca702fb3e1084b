import unittest

from tests.samples import SALES, Told, nested_list, nested_tuple, no_numbers, no_sales, no_tuples, sales_with_bid
from truebid.things import are_prices, is_giving, is_sale

# Three guests and two things, and two guests and three things.
TALL = ((3, 5), (2, 4), (0, 1000000))
WIDE = ((3, 5, 1), (2, 4, 0))
ONE = ((7,),)
FULL = ((1, 2, 3, 4, 5, 6),) * 6


def put(thing, place, part):
    return thing[:place] + (part,) + thing[place + 1:]


class IsSale(Told):
    def test_sales(self):
        for sale in SALES:
            self.told(True, is_sale, sale)

    def test_every_shape_from_one_to_six(self):
        for guests in range(1, 7):
            for things in range(1, 7):
                self.told(True, is_sale, ((4,) * things,) * guests)

    def test_shapes_out_of_bounds(self):
        for guests in range(9):
            for things in range(9):
                if not (1 <= guests <= 6 and 1 <= things <= 6):
                    self.told(False, is_sale, ((4,) * things,) * guests)

    def test_bids_at_the_edges(self):
        for bid in (0, 1, 999999, 1000000):
            for sale in sales_with_bid(bid):
                self.told(True, is_sale, sale)
        for bid in (-1, 1000001):
            for thing in sales_with_bid(bid):
                self.told(False, is_sale, thing)

    def test_no_sales(self):
        for thing in no_sales():
            self.told(False, is_sale, thing)

    def test_thirty_deep(self):
        for depth in range(2, 36):
            self.told(depth == 2, is_sale, nested_tuple(depth, 1))
            self.told(False, is_sale, nested_list(depth, 1))
            self.told(False, is_sale, ((1, nested_tuple(depth, 1)), (1, 2)))
            self.told(False, is_sale, ((1, 2), (1, nested_list(depth, 1))))

    def test_argument_name(self):
        self.assertIs(is_sale(thing=ONE), True)


class IsGiving(Told):
    def test_givings(self):
        for giving in ((0, 1, None), (1, 0, None), (None, 1, 0), (1, None, None), (None, None, 0), (None,) * 3):
            self.told(True, is_giving, giving, TALL)
        for giving in ((0, 1), (2, 0), (0, 2), (1, 2), (None, 2), (0, None), (None, None)):
            self.told(True, is_giving, giving, WIDE)
        for giving in ((0,), (None,)):
            self.told(True, is_giving, giving, ONE)
        for giving in ((0, 1, 2, 3, 4, 5), (5, 4, 3, 2, 1, 0), (None, 5, None, 0, None, None), (None,) * 6):
            self.told(True, is_giving, giving, FULL)

    def test_a_thing_twice(self):
        for giving in ((0, 0, None), (0, None, 0), (None, 1, 1), (1, 0, 1), (0, 0, 0)):
            self.told(False, is_giving, giving, TALL)
        for giving in ((0, 0), (1, 1), (2, 2)):
            self.told(False, is_giving, giving, WIDE)
        self.told(False, is_giving, (0, 1, 2, 3, 4, 0), FULL)

    def test_numbers_of_no_thing(self):
        for number in (-1, -2, 2, 3, 10 ** 30, -10 ** 30):
            for place in range(3):
                self.told(False, is_giving, put((None,) * 3, place, number), TALL)
        for number in (-1, 3, 4):
            for place in range(2):
                self.told(False, is_giving, put((None,) * 2, place, number), WIDE)
        for number in (-1, 1):
            self.told(False, is_giving, (number,), ONE)
        for number in (-1, 6):
            self.told(False, is_giving, (0, 1, 2, 3, 4, number), FULL)

    def test_parts_of_other_kinds(self):
        for part in no_numbers():
            self.told(False, is_giving, (part,), ONE)
            for place in range(3):
                self.told(False, is_giving, put((None, None, None), place, part), TALL)
            for place in range(2):
                self.told(False, is_giving, put((2, 2), place, part), WIDE)

    def test_guests_too_few_or_too_many(self):
        for giving in ((), (0,), (0, 1), (None, None), (0, 1, None, None), (None,) * 4):
            self.told(False, is_giving, giving, TALL)
        for giving in ((), (0,), (None,), (0, 1, 2), (None,) * 3):
            self.told(False, is_giving, giving, WIDE)
        for giving in ((), (0, None), (None, None)):
            self.told(False, is_giving, giving, ONE)
        for giving in ((None,) * 5, (None,) * 7):
            self.told(False, is_giving, giving, FULL)

    def test_no_tuples(self):
        for sale in SALES + (TALL, WIDE):
            for thing in no_tuples() + ([0], [0, 1], [0, 1, None], [None] * len(sale), "01", "012"):
                self.told(False, is_giving, thing, sale)

    def test_thirty_deep(self):
        for depth in range(2, 36):
            self.told(False, is_giving, nested_tuple(depth, 0), ONE)
            self.told(False, is_giving, nested_list(depth, 0), ONE)
            self.told(False, is_giving, nested_tuple(depth, None), ONE)
            self.told(False, is_giving, (0, nested_tuple(depth, 1)), WIDE)
            self.told(False, is_giving, (nested_list(depth, 1), 0), WIDE)

    def test_sales_somewhat_out_of_bounds_are_answered(self):
        self.told(True, is_giving, (None,) * 6 + (6,), ((1000001,) * 7,) * 7)
        self.told(False, is_giving, (None,) * 6 + (7,), ((1000001,) * 7,) * 7)
        self.told(False, is_giving, (0,), ())

    def test_argument_names(self):
        self.assertIs(is_giving(thing=(0,), sale=ONE), True)


class ArePrices(Told):
    def test_prices(self):
        for prices in ((0, 0), (3, 3), (0, 10000000), (10000000, 0), (1, 9999999), (10000000, 10000000)):
            self.told(True, are_prices, prices, TALL)
        for prices in ((0, 0, 0), (5, 4, 3), (1000001, 10000000, 0)):
            self.told(True, are_prices, prices, WIDE)
        for price in (0, 1, 1000001, 9999999, 10000000):
            self.told(True, are_prices, (price,), ONE)
            self.told(True, are_prices, (price,) * 6, FULL)

    def test_prices_out_of_bounds(self):
        for price in (-1, -10000000, 10000001, 10 ** 30, -10 ** 30):
            self.told(False, are_prices, (price,), ONE)
            for place in range(2):
                self.told(False, are_prices, put((0, 10000000), place, price), TALL)
            for place in range(3):
                self.told(False, are_prices, put((0, 5, 10000000), place, price), WIDE)

    def test_parts_of_other_kinds(self):
        for part in (None,) + no_numbers():
            self.told(False, are_prices, (part,), ONE)
            for place in range(2):
                self.told(False, are_prices, put((0, 1), place, part), TALL)
            for place in range(3):
                self.told(False, are_prices, put((0, 1, 2), place, part), WIDE)

    def test_prices_too_few_or_too_many(self):
        for prices in ((), (1,), (1, 2, 3)):
            self.told(False, are_prices, prices, TALL)
        for prices in ((), (1,), (1, 2), (1, 2, 3, 4)):
            self.told(False, are_prices, prices, WIDE)
        for prices in ((), (1, 2)):
            self.told(False, are_prices, prices, ONE)
        for prices in ((1,) * 5, (1,) * 7):
            self.told(False, are_prices, prices, FULL)

    def test_no_tuples(self):
        for sale in SALES + (TALL, WIDE):
            for thing in no_tuples() + ([0], [0, 1], [0, 1, 2], [0] * len(sale[0]), "01", "012"):
                self.told(False, are_prices, thing, sale)

    def test_thirty_deep(self):
        for depth in range(2, 36):
            self.told(False, are_prices, nested_tuple(depth, 0), ONE)
            self.told(False, are_prices, nested_list(depth, 0), ONE)
            self.told(False, are_prices, (0, nested_tuple(depth, 1)), TALL)
            self.told(False, are_prices, (nested_list(depth, 1), 0), TALL)

    def test_sales_somewhat_out_of_bounds_are_answered(self):
        self.told(True, are_prices, (5,) * 7, ((1000001,) * 7,) * 7)
        self.told(False, are_prices, (5,) * 6, ((1000001,) * 7,) * 7)
        self.told(False, are_prices, (5,), ())

    def test_argument_names(self):
        self.assertIs(are_prices(thing=(0,), sale=ONE), True)


if __name__ == "__main__":
    unittest.main()
