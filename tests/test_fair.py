import functools
import unittest

from tests.samples import SALES, SHAPES, Told, all_givings, all_prices, mixed_sales, small_sales
from truebid.fair import greatest, is_fair, least
from truebid.givings import best, worth_of
from truebid.things import are_prices


def is_fair_by_words(sale, giving, prices):
    for row, thing in zip(sale, giving):
        gains = [bid - price for bid, price in zip(row, prices)] + [0]
        if gains[-1 if thing is None else thing] != max(gains):
            return False
    return not any(price for thing, price in enumerate(prices) if thing not in giving)


@functools.cache
def fair_prices(sale, giving):
    return [prices for prices in all_prices(sale) if is_fair_by_words(sale, giving, prices)]


def bounded_prices(sale, start, bound):
    """Moves each price to its bound, which hangs on the others, again and again until none moves."""
    giving = best(sale)
    prices = [start] * len(sale[0])
    moved = True
    while moved:
        moved = False
        for thing in range(len(prices)):
            price = bound(sale, giving, prices, thing)
            moved = moved or price != prices[thing]
            prices[thing] = price
    return tuple(prices)


def at_least(sale, giving, prices, thing):
    """A guest must not gain more by the thing than by what it is given."""
    asked = [0]
    for row, given in zip(sale, giving):
        gain = 0 if given is None else row[given] - prices[given]
        asked.append(row[thing] - gain)
    return max(asked + [prices[thing]])


def at_most(sale, giving, prices, thing):
    """A guest must not gain less by the thing that it is given than by others, or by None."""
    if thing not in giving:
        return 0
    row = sale[giving.index(thing)]
    asked = [row[thing]] + [row[thing] - bid + price for bid, price in zip(row, prices)]
    return min(asked + [prices[thing]])


class IsFair(Told):
    def test_fair(self):
        for sale, giving, prices in (
            (((7,),), (0,), (0,)),
            (((7,),), (0,), (3,)),
            (((7,), (4,)), (0, None), (4,)),
            (((7,), (4,)), (0, None), (6,)),
            (((9, 8), (8, 1)), (1, 0), (1, 0)),
            (((9, 8), (8, 1)), (1, 0), (8, 7)),
            (((3, 5, 1),), (1,), (0, 0, 0)),
            (((3, 5, 1),), (1,), (0, 2, 0)),
            (((3, 5), (2, 4), (0, 9)), (0, None, 1), (2, 5)),
            (((1000000,) * 6,) * 6, (5, 4, 3, 2, 1, 0), (1000000,) * 6),
        ):
            self.told(True, is_fair, sale, giving, prices)

    def test_equal_gains_are_fair(self):
        for sale, giving, prices in (
            (((7,),), (0,), (7,)),
            (((0,),), (0,), (0,)),
            (((0,),), (None,), (0,)),
            (((7,), (7,)), (0, None), (7,)),
            (((7,), (7,)), (None, 0), (7,)),
            (((5, 5), (5, 5)), (0, 1), (2, 2)),
            (((5, 5), (5, 5)), (1, 0), (5, 5)),
            (((3, 5), (3, 5)), (0, 1), (1, 3)),
            (((3, 5), (3, 5)), (1, 0), (1, 3)),
            (((0, 0), (0, 0)), (None, None), (0, 0)),
            (((0, 0), (0, 0)), (None, 1), (0, 0)),
        ):
            self.told(True, is_fair, sale, giving, prices)

    def test_a_guest_would_rather_have_another_thing(self):
        for sale, giving, prices in (
            (((3, 5, 1),), (0,), (0, 0, 0)),
            (((3, 5, 1),), (1,), (0, 3, 0)),
            (((9, 8), (8, 1)), (1, 0), (0, 0)),
            (((9, 8), (8, 1)), (0, 1), (1, 0)),
            (((5, 5), (5, 5)), (0, 1), (2, 3)),
            (((5, 5), (5, 5)), (0, 1), (3, 2)),
        ):
            self.told(False, is_fair, sale, giving, prices)

    def test_a_guest_would_rather_have_none(self):
        for sale, giving, prices in (
            (((7,),), (0,), (8,)),
            (((0,),), (0,), (1,)),
            (((7,), (4,)), (None, 0), (7,)),
            (((7,), (4,)), (0, None), (10000000,)),
            (((9, 8), (8, 1)), (1, 0), (10, 9)),
            (((9, 8), (8, 1)), (1, 0), (9, 8)),
        ):
            self.told(False, is_fair, sale, giving, prices)

    def test_a_guest_would_rather_have_a_thing_than_none(self):
        for sale, giving, prices in (
            (((7,),), (None,), (0,)),
            (((1,),), (None,), (0,)),
            (((7,), (4,)), (0, None), (3,)),
            (((7,), (4,)), (0, None), (0,)),
            (((3, 5), (2, 4), (0, 9)), (0, None, 1), (1, 5)),
            (((3, 5), (2, 4), (0, 9)), (0, None, 1), (2, 3)),
        ):
            self.told(False, is_fair, sale, giving, prices)

    def test_a_thing_not_given_has_a_price(self):
        for sale, giving, prices in (
            (((7,),), (None,), (7,)),
            (((0,),), (None,), (1,)),
            (((3, 5, 1),), (1,), (1, 0, 0)),
            (((3, 5, 1),), (1,), (0, 0, 1)),
            (((3, 5, 1),), (1,), (0, 2, 10000000)),
            (((0, 0), (0, 0)), (None, 1), (1, 0)),
            (((0, 0), (0, 0)), (None, None), (5, 5)),
        ):
            self.told(False, is_fair, sale, giving, prices)

    def test_every_giving_and_prices_of_small_sales(self):
        for sale in small_sales()[::9]:
            for giving in all_givings(sale):
                for prices in all_prices(sale):
                    if is_fair(sale, giving, prices) is not is_fair_by_words(sale, giving, prices):
                        self.fail((sale, giving, prices))

    def test_the_same_again(self):
        for sale in small_sales()[::60]:
            for giving in all_givings(sale):
                for prices in all_prices(sale):
                    self.asked(is_fair, sale, giving, prices)

    def test_a_price_moved_by_one(self):
        for guests, things in SHAPES:
            for sale in mixed_sales(guests, things, 1000000, 3):
                giving = best(sale)
                for prices in (least(sale), greatest(sale)):
                    for thing in range(things):
                        for step in (-1, 1):
                            other = prices[:thing] + (prices[thing] + step,) + prices[thing + 1:]
                            if are_prices(other, sale):
                                self.told(is_fair_by_words(sale, giving, other), is_fair, sale, giving, other)

    def test_somewhat_out_of_bounds_is_answered(self):
        self.told(True, is_fair, ((1000001,) * 7,) * 7, (0, 1, 2, 3, 4, 5, 6), (1000001,) * 7)
        self.told(False, is_fair, ((1000001,) * 7,) * 7, (0, 1, 2, 3, 4, 5, None), (1000001,) * 7)
        self.told(False, is_fair, ((7,),), (0,), (10000001,))

    def test_argument_names(self):
        self.assertIs(is_fair(sale=((7,),), giving=(0,), prices=(3,)), True)


class LeastAndGreatest(Told):
    def test_known_prices(self):
        for sale, low, high in (
            # one guest, one thing
            (((7,),), (0,), (7,)),
            (((0,),), (0,), (0,)),
            (((1000000,),), (0,), (1000000,)),
            # one guest alone
            (((3, 5, 1),), (0, 0, 0), (0, 2, 0)),
            (((5, 5),), (0, 0), (0, 0)),
            (((1000000, 0, 0, 0, 0, 0),), (0,) * 6, (1000000, 0, 0, 0, 0, 0)),
            # one thing alone
            (((7,), (4,)), (4,), (7,)),
            (((4,), (9,), (7,)), (7,), (9,)),
            (((7,), (7,)), (7,), (7,)),
            (((0,), (0,), (0,)), (0,), (0,)),
            (((1000000,), (999999,)), (999999,), (1000000,)),
            # more guests than things, and fewer
            (((3, 5), (2, 4), (0, 9)), (2, 4), (3, 9)),
            (((5, 5),) * 3, (5, 5), (5, 5)),
            (((9, 1, 0), (8, 5, 0)), (3, 0, 0), (9, 5, 0)),
            (((5, 5, 5),) * 2, (0, 0, 0), (0, 0, 0)),
            # as many
            (((9, 8), (8, 1)), (1, 0), (8, 7)),
            (((5, 5), (5, 5)), (0, 0), (5, 5)),
            (((3, 5), (3, 5)), (0, 2), (3, 5)),
        ):
            self.told(low, least, sale)
            self.told(high, greatest, sale)

    def test_equal_bids_in_every_shape(self):
        for guests, things in SHAPES:
            for bid in (0, 5, 1000000):
                sale = ((bid,) * things,) * guests
                self.told((bid if guests > things else 0,) * things, least, sale)
                self.told((bid if guests >= things else 0,) * things, greatest, sale)

    def test_held_against_all_prices_of_small_sales(self):
        for sale in small_sales():
            with self.subTest(sale=sale):
                fair = fair_prices(sale, best(sale))
                low = self.asked(least, sale)
                high = self.asked(greatest, sale)
                self.assertIn(low, fair)
                self.assertIn(high, fair)
                self.assertEqual(low, tuple(map(min, zip(*fair))))
                self.assertEqual(high, tuple(map(max, zip(*fair))))

    def held_by_moving(self, sale):
        top = max(max(row) for row in sale)
        for ask, expected in (
            (least, bounded_prices(sale, 0, at_least)),
            (greatest, bounded_prices(sale, top, at_most)),
        ):
            self.told(expected, ask, sale)
            self.assertIs(are_prices(expected, sale), True)
            self.assertIs(is_fair(sale, best(sale), expected), True)

    def test_every_shape(self):
        for guests, things in SHAPES:
            for greatest_bid in (1, 3, 20, 1000000):
                for sale in mixed_sales(guests, things, greatest_bid, 4):
                    self.held_by_moving(sale)

    def test_sales_of_the_samples(self):
        for sale in SALES:
            self.held_by_moving(sale)

    def test_sales_somewhat_out_of_bounds_are_answered(self):
        self.told((0,) * 7, least, ((1000001,) * 7,) * 7)
        self.told((1000001,) * 7, greatest, ((1000001,) * 7,) * 7)
        self.told((0,), least, ((-1,),))
        self.told((0,), greatest, ((-1,),))
        for sale in ((), ((), ())):
            self.told((), least, sale)
            self.told((), greatest, sale)

    def test_argument_names(self):
        self.assertEqual(least(sale=((7,),)), (0,))
        self.assertEqual(greatest(sale=((7,),)), (7,))


class TheWhole(Told):
    def test_fair_prices_if_and_only_if_none_is_worth_more(self):
        for sale in small_sales():
            givings = all_givings(sale)
            worth = max([worth_of(sale, giving) for giving in givings])
            expected = fair_prices(sale, best(sale))
            with self.subTest(sale=sale):
                self.assertNotEqual(expected, [])
                for giving in givings:
                    fair = [prices for prices in all_prices(sale) if is_fair(sale, giving, prices)]
                    self.assertEqual(fair, expected if worth_of(sale, giving) == worth else [])

    def test_least_prices_raised_but_none_above_its_greatest(self):
        for sale in small_sales():
            low = least(sale)
            high = greatest(sale)
            for step in range(max(high) + 2):
                prices = tuple(min(a + step, b) for a, b in zip(low, high))
                self.told(True, is_fair, sale, best(sale), prices)

    def test_great_least_prices_raised(self):
        for guests, things in SHAPES:
            for sale in mixed_sales(guests, things, 1000000, 3):
                low = least(sale)
                high = greatest(sale)
                gaps = [b - a for a, b in zip(low, high)]
                for step in sorted({0, 1, 2, 1000, 333333, 10 ** 6} | {gap + k for gap in gaps for k in (-1, 0, 1)}):
                    if step >= 0:
                        prices = tuple(min(a + step, b) for a, b in zip(low, high))
                        self.told(True, is_fair, sale, best(sale), prices)


if __name__ == "__main__":
    unittest.main()
