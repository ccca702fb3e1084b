import itertools
import unittest

from tests.samples import SALES, SHAPES, Told, all_givings, all_prices, mixed_sales, small_sales
from truebid.fair import greatest, least
from truebid.serving import pressed, served, wanted
from truebid.things import is_giving

HIGHEST = 10000000


def wanted_by_words(sale, prices, guest):
    gains = [bid - price for bid, price in zip(sale[guest], prices)]
    if max(gains) <= 0:
        return ()
    return tuple(thing for thing, gain in enumerate(gains) if gain == max(gains))


def all_wanted(sale, prices):
    return [wanted_by_words(sale, prices, guest) for guest in range(len(sale))]


def serves(giving, wishes):
    """Each guest that wants anything is given something that it wants, the others None."""
    return all(thing in wish if wish else thing is None for thing, wish in zip(giving, wishes))


def is_crowd(things, wishes):
    return sum(1 for wish in wishes if wish and set(wish) <= set(things)) > len(things)


def rising_tuples(count):
    return [things for size in range(count + 1) for things in itertools.combinations(range(count), size)]


def prices_near(sale):
    """Prices about the least and the greatest fair ones, where guests begin to be served."""
    things = len(sale[0])
    low = least(sale)
    high = greatest(sale)
    found = [low, high, (0,) * things, (HIGHEST,) * things, tuple((a + b) // 2 for a, b in zip(low, high))]
    for prices in (low, high):
        for step in (-1, 1):
            found.append(tuple(max(price + step, 0) for price in prices))
            for thing in range(things):
                found.append(prices[:thing] + (max(prices[thing] + step, 0),) + prices[thing + 1:])
        for thing in range(things):
            found.append(prices[:thing] + (0,) + prices[thing + 1:])
            found.append(prices[:thing] + (HIGHEST,) + prices[thing + 1:])
    return found


class ToldOneOf(Told):
    def one_of(self, found, ask, sale, prices):
        """Which of several is told is free, but None is told only where there is none."""
        answer = self.asked(ask, sale, prices)
        if repr(answer) not in [repr(thing) for thing in found or [None]]:
            self.fail((sale, prices, answer, found))


class Wanted(Told):
    def test_one_thing(self):
        for sale, prices, guest, things in (
            (((7,),), (0,), 0, (0,)),
            (((7,),), (6,), 0, (0,)),
            (((1,),), (0,), 0, (0,)),
            (((1000000,),), (999999,), 0, (0,)),
            (((3, 5, 1),), (0, 0, 0), 0, (1,)),
            (((3, 5, 1),), (0, 3, 0), 0, (0,)),
            (((3, 5, 1),), (9, 9, 0), 0, (2,)),
            (((3, 5), (2, 4), (0, 9)), (2, 5), 0, (0,)),
            (((3, 5), (2, 4), (0, 9)), (2, 5), 2, (1,)),
            (((3, 5), (6, 4), (0, 9)), (0, 0), 1, (0,)),
            (((9, 8, 7, 6, 5, 4),), (5, 0, 3, 0, 1, 4), 0, (1,)),
            (((9, 8, 7, 6, 5, 4),), (5, 4, 4, 2, 0, 0), 0, (4,)),
        ):
            self.told(things, wanted, sale, prices, guest)

    def test_several_of_equal_gain(self):
        for sale, prices, guest, things in (
            (((3, 5, 1),), (0, 2, 0), 0, (0, 1)),
            (((3, 1, 5),), (0, 0, 2), 0, (0, 2)),
            (((1, 5, 3),), (0, 3, 1), 0, (1, 2)),
            (((9, 9), (4, 1), (1, 4)), (3, 0), 1, (0, 1)),
            (((9, 8, 7, 6, 5, 4),), (5, 4, 4, 2, 1, 1), 0, (0, 1, 3, 4)),
        ):
            self.told(things, wanted, sale, prices, guest)

    def test_all_of_them(self):
        for guests, things in SHAPES:
            sale = tuple(tuple(guest + thing + 1 for thing in range(things)) for guest in range(guests))
            for guest in range(guests):
                self.told(tuple(range(things)), wanted, sale, tuple(range(things)), guest)

    def test_nothing_where_the_greatest_gain_is_just_0(self):
        for sale, prices, guest in (
            (((7,),), (7,), 0),
            (((0,),), (0,), 0),
            (((1000000,),), (1000000,), 0),
            (((3, 5, 1),), (3, 5, 1), 0),
            (((3, 5, 1),), (4, 5, 9), 0),
            (((3, 5), (2, 4), (0, 9)), (2, 5), 1),
            (((3, 5), (0, 0), (0, 9)), (0, 0), 1),
        ):
            self.told((), wanted, sale, prices, guest)

    def test_nothing_where_the_greatest_gain_is_below_0(self):
        for sale, prices, guest in (
            (((7,),), (8,), 0),
            (((0,),), (1,), 0),
            (((1000000,),), (HIGHEST,), 0),
            (((3, 5, 1),), (4, 6, 2), 0),
            (((3, 5, 1),), (4, 7, HIGHEST), 0),
            (((9, 9), (2, 4), (9, 9)), (3, 5), 1),
        ):
            self.told((), wanted, sale, prices, guest)

    def test_all_prices_of_small_sales(self):
        for sale in small_sales()[::3]:
            for prices in all_prices(sale):
                for guest in range(len(sale)):
                    things = self.asked(wanted, sale, prices, guest)
                    if repr(things) != repr(wanted_by_words(sale, prices, guest)):
                        self.fail((sale, prices, guest, things))

    def test_every_shape(self):
        for guests, things in SHAPES:
            for sale in mixed_sales(guests, things, 1000000, 2):
                for prices in prices_near(sale):
                    for guest in range(guests):
                        self.told(wanted_by_words(sale, prices, guest), wanted, sale, prices, guest)

    def test_somewhat_out_of_bounds_is_answered(self):
        self.told((0, 1, 2, 3, 4, 5, 6), wanted, ((1000001,) * 7,) * 7, (1000000,) * 7, 6)
        self.told((), wanted, ((7,),), (HIGHEST + 1,), 0)
        self.told((0,), wanted, ((0,),), (-1,), 0)

    def test_argument_names(self):
        self.assertEqual(wanted(sale=((7,),), prices=(3,), guest=0), (0,))


class Served(ToldOneOf):
    def test_the_one_giving(self):
        for sale, prices, giving in (
            # one guest, one thing
            (((7,),), (0,), (0,)),
            (((7,),), (6,), (0,)),
            (((7,),), (7,), (None,)),
            (((0,),), (0,), (None,)),
            # prices of 0
            (((3, 5, 1),), (0, 0, 0), (1,)),
            (((3, 5), (6, 4)), (0, 0), (1, 0)),
            (((0, 0), (0, 0)), (0, 0), (None, None)),
            (((0, 0), (0, 1)), (0, 0), (None, 1)),
            # more guests than things, and fewer
            (((3, 5), (2, 4), (0, 9)), (2, 5), (0, None, 1)),
            (((7,), (4,), (1,)), (4,), (0, None, None)),
            (((4,), (1,), (7,)), (6,), (None, None, 0)),
            (((9, 1, 0), (8, 5, 0)), (4, 0, 0), (0, 1)),
            (((1, 2, 3, 4, 5, 6),), (0,) * 6, (5,)),
            # one guest wants either thing, another only one of them
            (((5, 5), (5, 1)), (0, 0), (1, 0)),
            (((5, 5), (1, 5)), (0, 0), (0, 1)),
            (((5, 1), (5, 5)), (0, 0), (0, 1)),
            # each guest but the last moves on
            (((9, 9, 0), (0, 9, 9), (9, 0, 0)), (0, 0, 0), (1, 2, 0)),
        ):
            self.told(giving, served, sale, prices)

    def test_no_giving(self):
        for sale, prices in (
            (((7,), (4,)), (3,)),
            (((7,), (4,)), (0,)),
            (((1,), (1,)), (0,)),
            (((9, 8), (8, 1)), (0, 0)),
            (((3, 5), (2, 4), (0, 9)), (0, 0)),
            (((5, 5),) * 3, (4, 4)),
            (((9, 1, 0), (8, 5, 0)), (2, 0, 0)),
            (((1, 2, 3, 4, 5, 6),) * 2, (0,) * 6),
            (((1000000,) * 5,) * 6, (999999,) * 5),
        ):
            self.told(None, served, sale, prices)

    def test_prices_so_high_that_nobody_wants_anything(self):
        for guests, things in SHAPES:
            for sale in mixed_sales(guests, things, 1000000, 2):
                top = max(max(row) for row in sale)
                for price in (top, top + 1, HIGHEST):
                    self.told((None,) * guests, served, sale, (price,) * things)
                    self.told(None, pressed, sale, (price,) * things)

    def test_equal_bids_in_every_shape(self):
        for guests, things in SHAPES:
            for price in (0, 4):
                sale = ((5,) * things,) * guests
                giving = self.asked(served, sale, (price,) * things)
                with self.subTest(sale=sale):
                    if guests > things:
                        self.assertIsNone(giving)
                    else:
                        self.assertIs(is_giving(giving, sale), True)
                        self.assertNotIn(None, giving)

    def test_held_against_every_giving_of_small_sales(self):
        for sale in small_sales()[::2]:
            givings = all_givings(sale)
            for prices in all_prices(sale):
                wishes = all_wanted(sale, prices)
                serving = [giving for giving in givings if serves(giving, wishes)]
                self.one_of(serving, served, sale, prices)

    def test_somewhat_out_of_bounds_is_answered(self):
        sale = tuple((0,) * k + (1000001,) + (0,) * (6 - k) for k in range(7))
        self.told((0, 1, 2, 3, 4, 5, 6), served, sale, (1000000,) * 7)
        self.told((None,) * 7, served, sale, (HIGHEST + 1,) * 7)
        self.told(None, served, ((1,) * 6,) * 7, (0,) * 6)
        self.told((), served, (), ())
        self.told((None, None), served, ((), ()), ())

    def test_argument_names(self):
        self.assertEqual(served(sale=((7,),), prices=(3,)), (0,))


class Pressed(ToldOneOf):
    def test_the_one_crowd(self):
        for sale, prices, things in (
            (((7,), (4,)), (3,), (0,)),
            (((7,), (4,), (0,)), (0,), (0,)),
            (((1,), (1,)), (0,), (0,)),
            (((9, 8), (8, 1)), (0, 0), (0,)),
            (((8, 9), (1, 8)), (0, 0), (1,)),
            (((5, 5),) * 3, (4, 4), (0, 1)),
            (((5, 0, 5),) * 3, (4, 4, 4), (0, 2)),
            (((0, 5, 5),) * 3, (0, 0, 0), (1, 2)),
            (((9, 0, 0, 9), (0, 0, 9, 9), (9, 0, 9, 0), (9, 0, 9, 9)), (0, 0, 0, 0), (0, 2, 3)),
            (((1, 2, 3, 4, 5, 6),) * 2, (0,) * 6, (5,)),
            (((1000000,) * 5,) * 6, (999999,) * 5, (0, 1, 2, 3, 4)),
        ):
            self.told(things, pressed, sale, prices)

    def test_no_crowd(self):
        for sale, prices in (
            (((7,),), (0,)),
            (((7,),), (7,)),
            (((0,), (0,)), (0,)),
            (((7,), (4,)), (4,)),
            (((7,), (4,)), (HIGHEST,)),
            (((5, 5), (5, 1)), (0, 0)),
            (((3, 5), (2, 4), (0, 9)), (2, 5)),
            (((5,) * 6,) * 6, (0,) * 6),
            (((5, 5),) * 6, (5, 5)),
            (((9, 9, 0), (0, 9, 9), (9, 0, 0)), (0, 0, 0)),
        ):
            self.told(None, pressed, sale, prices)

    def test_equal_bids_in_every_shape(self):
        for guests, things in SHAPES:
            for price in (0, 4):
                crowd = tuple(range(things)) if guests > things else None
                self.told(crowd, pressed, ((5,) * things,) * guests, (price,) * things)

    def test_held_against_every_set_of_things_of_small_sales(self):
        for sale in small_sales()[1::2]:
            choices = rising_tuples(len(sale[0]))
            for prices in all_prices(sale):
                wishes = all_wanted(sale, prices)
                crowds = [things for things in choices if is_crowd(things, wishes)]
                self.one_of(crowds, pressed, sale, prices)

    def test_somewhat_out_of_bounds_is_answered(self):
        self.told((0, 1, 2, 3, 4, 5), pressed, ((1000001,) * 6,) * 7, (1000000,) * 6)
        self.told((0, 1, 2, 3, 4, 5, 6), pressed, ((1,) * 7,) * 8, (0,) * 7)
        self.told(None, pressed, ((1000001,) * 7,) * 7, (1000000,) * 7)
        self.told(None, pressed, ((7,), (7,)), (HIGHEST + 1,))
        self.told(None, pressed, (), ())
        self.told(None, pressed, ((), ()), ())

    def test_argument_names(self):
        self.assertEqual(pressed(sale=((7,), (7,)), prices=(3,)), (0,))


class TheWhole(Told):
    """At any prices either each guest can be given what is best to it, or there is a crowd."""

    def served_or_pressed(self, sale, prices):
        """Whether all are served; what is told then is held against what each guest wants."""
        giving = self.asked(served, sale, prices)
        crowd = self.asked(pressed, sale, prices)
        wishes = all_wanted(sale, prices)
        if (giving is None) is (crowd is None):
            self.fail((sale, prices, giving, crowd))
        if giving is not None and not (is_giving(giving, sale) and serves(giving, wishes)):
            self.fail((sale, prices, giving))
        if crowd is not None and not (crowd in rising_tuples(len(sale[0])) and is_crowd(crowd, wishes)):
            self.fail((sale, prices, crowd))
        return giving is not None

    def test_all_prices_of_small_sales(self):
        for sale in small_sales()[::2]:
            low = least(sale)
            for prices in all_prices(sale):
                is_served = self.served_or_pressed(sale, prices)
                signs = [(price > bound) - (price < bound) for price, bound in zip(prices, low)]
                if is_served and -1 in signs:
                    self.fail(("served below the least fair prices", sale, prices))
                if not is_served and prices == low:
                    self.fail(("not served at the least fair prices", sale, prices))

    def test_a_crowd_below_the_least_fair_prices(self):
        for sale in small_sales():
            low = least(sale)
            for prices in itertools.product(*[range(price + 1) for price in low]):
                if self.served_or_pressed(sale, prices) is not (prices == low):
                    self.fail((sale, prices))

    def test_all_are_served_at_the_least_and_at_the_greatest_fair_prices(self):
        for sale in small_sales() + list(SALES):
            for prices in (least(sale), greatest(sale)):
                self.assertTrue(self.served_or_pressed(sale, prices), (sale, prices))

    def test_every_shape(self):
        for guests, things in SHAPES:
            for greatest_bid in (2, 20, 1000000):
                for sale in mixed_sales(guests, things, greatest_bid, 2):
                    low = least(sale)
                    for prices in (low, greatest(sale)):
                        self.assertTrue(self.served_or_pressed(sale, prices), (sale, prices))
                    for prices in prices_near(sale):
                        is_below = any(price < bound for price, bound in zip(prices, low))
                        if self.served_or_pressed(sale, prices):
                            self.assertFalse(is_below, (sale, prices))


if __name__ == "__main__":
    unittest.main()
