import unittest

from tests.samples import SALES, SHAPES, Told, all_givings, all_rows, mixed_sales, small_sales
from truebid.dues import due, gain
from truebid.fair import is_fair, least
from truebid.givings import best, most


def bids_added(sale, giving, left_out):
    """What the bids of all guests but one are worth for what they are given."""
    return sum(
        sale[guest][thing]
        for guest, thing in enumerate(giving)
        if guest != left_out and thing is not None
    )


def due_by_words(sale):
    """The others' best giving is looked for among all givings, those that give the guest something too."""
    givings = all_givings(sale)
    told = best(sale)
    return tuple(
        max(bids_added(sale, giving, guest) for giving in givings) - bids_added(sale, told, guest)
        for guest in range(len(sale))
    )


def with_row(sale, guest, said):
    rows = list(sale)
    rows[guest] = said
    return tuple(rows)


def gain_by_words(sale, guest, said):
    other = with_row(sale, guest, said)
    thing = best(other)[guest]
    return (0 if thing is None else sale[guest][thing]) - due_by_words(other)[guest]


def prices_of_what_is_given(sale, prices):
    return tuple(0 if thing is None else prices[thing] for thing in best(sale))


def rows_in_place(sale, guest):
    """Rows of great bids that a guest might say: its own moved a little, turned round, made all or nothing."""
    own = sale[guest]
    found = [own, own[::-1], (0,) * len(own), (1000000,) * len(own), tuple(bid // 2 for bid in own)]
    for thing, bid in enumerate(own):
        for other in sorted({0, 1000000, max(bid - 1, 0), min(bid + 1, 1000000), bid // 2}):
            found.append(own[:thing] + (other,) + own[thing + 1:])
        found.append((0,) * thing + (1000000,) + (0,) * (len(own) - thing - 1))
    return found + [row for row in sale if row != own]


class Due(Told):
    def test_known_dues(self):
        for sale, dues in (
            # one guest alone
            (((7,),), (0,)),
            (((0,),), (0,)),
            (((1000000,),), (0,)),
            (((3, 5, 1),), (0,)),
            (((1, 2, 3, 4, 5, 6),), (0,)),
            # one thing alone: it costs the next lower bid
            (((7,), (4,)), (4, 0)),
            (((4,), (9,), (7,)), (0, 7, 0)),
            (((1000000,), (999999,)), (999999, 0)),
            (((7,), (0,)), (0, 0)),
            (((1,), (2,), (3,), (4,), (5,), (6,)), (0, 0, 0, 0, 0, 5)),
            # more guests than things, and fewer
            (((3, 5), (2, 4), (0, 9)), (2, 0, 4)),
            (((9, 1, 0), (8, 5, 0)), (3, 0)),
            (((5, 5, 5),) * 2, (0, 0)),
            # as many
            (((9, 8), (8, 1)), (0, 1)),
            (((3, 5), (2, 1)), (0, 0)),
            (((5, 5), (5, 5)), (0, 0)),
            (((0,) * 6,) * 6, (0,) * 6),
            (((1000000,) * 6,) * 6, (0,) * 6),
        ):
            self.told(dues, due, sale)

    def test_equal_bids(self):
        for guests, things in SHAPES:
            sale = ((5,) * things,) * guests
            with self.subTest(sale=sale):
                dues = self.asked(due, sale)
                self.assertIs(type(dues), tuple)
                price = 5 if guests > things else 0
                self.assertEqual(dues, tuple(0 if thing is None else price for thing in best(sale)))

    def test_one_guest_alone_pays_nothing(self):
        for things in range(1, 7):
            for sale in mixed_sales(1, things, 1000000, 5):
                self.told((0,), due, sale)

    def test_held_against_every_giving_of_small_sales(self):
        for sale in small_sales():
            self.told(due_by_words(sale), due, sale)

    def test_held_against_every_giving_in_every_shape(self):
        for guests, things in SHAPES:
            count = 1 if guests + things > 9 else 6
            for greatest_bid in (3, 1000000):
                for sale in mixed_sales(guests, things, greatest_bid, count):
                    self.told(due_by_words(sale), due, sale)

    def test_somewhat_out_of_bounds_is_answered(self):
        self.told((0,) * 7, due, ((1000001,) * 7,) * 7)
        self.told((0,) * 6 + (6,), due, ((1,), (2,), (3,), (4,), (5,), (6,), (7,)))
        self.told((0,), due, ((-1,),))
        self.told((), due, ())
        self.told((0, 0), due, ((), ()))

    def test_argument_names(self):
        self.assertEqual(due(sale=((7,), (4,))), (4, 0))


class Gain(Told):
    def test_own_row_said(self):
        for sale, gains in (
            (((7,),), (7,)),
            (((0,),), (0,)),
            (((3, 5, 1),), (5,)),
            (((7,), (4,)), (3, 0)),
            (((7,), (7,)), (0, 0)),
            (((4,), (9,), (7,)), (0, 2, 0)),
            (((3, 5), (2, 4), (0, 9)), (1, 0, 5)),
            (((9, 8), (8, 1)), (8, 7)),
            (((9, 1, 0), (8, 5, 0)), (6, 5)),
            (((1000000,) * 6,) * 6, (1000000,) * 6),
        ):
            for guest, expected in enumerate(gains):
                self.told(expected, gain, sale, guest, sale[guest])

    def test_another_row_said(self):
        for sale, guest, said, expected in (
            # alone it pays nothing, whatever it says
            (((7,),), 0, (1,), 7),
            (((7,),), 0, (1000000,), 7),
            (((3, 5, 1),), 0, (9, 1, 1), 3),
            (((3, 5, 1),), 0, (0, 0, 2), 1),
            # too little said: the thing goes to another
            (((7,), (4,)), 0, (3,), 0),
            (((7,), (4,)), 0, (5,), 3),
            # too much said: more is paid than it is worth
            (((7,), (4,)), 1, (8,), -3),
            (((7,), (4,)), 1, (1000000,), -3),
            (((7,), (4,)), 1, (6,), 0),
            (((4,), (9,), (7,)), 0, (10,), -5),
            # the wrong thing
            (((9, 8), (8, 1)), 0, (9, 0), 2),
            (((9, 8), (8, 1)), 1, (0, 9), 1),
            (((3, 5), (2, 4), (0, 9)), 1, (4, 4), -1),
            (((3, 5), (2, 4), (0, 9)), 2, (1000000, 0), -2),
        ):
            self.told(expected, gain, sale, guest, said)

    def test_held_against_the_words_on_small_sales(self):
        for sale in small_sales()[::7]:
            for guest in range(len(sale)):
                for said in all_rows(sale, max(max(row) for row in sale) + 1):
                    self.told(gain_by_words(sale, guest, said), gain, sale, guest, said)

    def test_held_against_the_words_in_every_shape(self):
        for guests, things in SHAPES:
            if guests + things < 9:
                sales = mixed_sales(guests, things, 1000000, 2)
                sales += [tuple(reversed(sale)) for sale in sales]
                for sale, other in zip(sales, reversed(sales)):
                    guest = guests // 2
                    self.told(gain_by_words(sale, guest, other[guest]), gain, sale, guest, other[guest])

    def test_somewhat_out_of_bounds_is_answered(self):
        self.told(1000001, gain, ((1000001,) * 7,) * 7, 6, (1000001,) * 7)
        self.told(-2, gain, ((7,), (4,), (9,)), 0, (1000001,))
        self.told(0, gain, ((7,), (4,), (9,)), 0, (-1,))

    def test_argument_names(self):
        self.assertEqual(gain(sale=((7,), (4,)), guest=0, said=(5,)), 3)


class TheWhole(Told):
    """No guest gains by another bid than its own, and each pays the least fair price of what it is given."""

    def test_due_is_the_least_fair_price_of_what_is_given(self):
        for sale in small_sales() + list(SALES):
            self.told(prices_of_what_is_given(sale, least(sale)), due, sale)

    def test_due_is_the_least_fair_price_in_every_shape(self):
        for guests, things in SHAPES:
            for greatest_bid in (2, 20, 1000000):
                for sale in mixed_sales(guests, things, greatest_bid, 5):
                    self.told(prices_of_what_is_given(sale, least(sale)), due, sale)

    def test_due_is_what_the_others_lose_by_its_being_there(self):
        for guests, things in SHAPES:
            for sale in mixed_sales(guests, things, 1000000, 5):
                giving = best(sale)
                for guest, price in enumerate(due(sale)):
                    others = sale[:guest] + sale[guest + 1:]
                    self.assertEqual(price, most(others) - bids_added(sale, giving, guest), sale)

    def test_no_row_gains_more_than_the_own_one(self):
        for sale in small_sales():
            rows = all_rows(sale, max(max(row) for row in sale) + 1)
            for guest in range(len(sale)):
                own = self.asked(gain, sale, guest, sale[guest])
                if own < 0:
                    self.fail((sale, guest, own))
                for said in rows:
                    if gain(sale, guest, said) > own:
                        self.fail((sale, guest, said))

    def test_no_row_gains_more_in_every_shape(self):
        for guests, things in SHAPES:
            for sale in mixed_sales(guests, things, 1000000, 1):
                for guest in range(guests):
                    own = self.asked(gain, sale, guest, sale[guest])
                    self.assertGreaterEqual(own, 0)
                    for said in rows_in_place(sale, guest):
                        self.assertLessEqual(gain(sale, guest, said), own, (sale, guest, said))

    def test_own_gain_is_that_at_the_least_fair_prices(self):
        for guests, things in SHAPES:
            for sale in mixed_sales(guests, things, 1000000, 3):
                prices = least(sale)
                self.assertIs(is_fair(sale, best(sale), prices), True)
                for guest, row in enumerate(sale):
                    top = max([0] + [bid - price for bid, price in zip(row, prices)])
                    self.told(top, gain, sale, guest, row)


if __name__ == "__main__":
    unittest.main()
