import itertools
import unittest

from tests.samples import SALES, SHAPES, Told, all_rows, mixed_sales, small_sales
from truebid.changing import renamed, with_guest, with_thing, without_guest, without_thing
from truebid.errors import NoRoom, NoSale
from truebid.fair import greatest, least
from truebid.givings import best, most, worth_of
from truebid.things import is_sale

TALL = ((3, 5), (2, 4), (0, 9))


def column(count):
    return tuple(range(20, 20 + count))


def bids_for(sale, thing):
    return tuple(row[thing] for row in sale)


def turned(sale):
    """The same sale with things in the place of guests."""
    return tuple(zip(*sale))


def reverse_of(numbers):
    return tuple(numbers.index(k) for k in range(len(numbers)))


class WithGuest(Told):
    def test_behind_the_others(self):
        for sale, row, other in (
            (((7,),), (4,), ((7,), (4,))),
            (((7,),), (0,), ((7,), (0,))),
            (((7,),), (7,), ((7,), (7,))),
            (((1, 2, 3),), (4, 5, 1000000), ((1, 2, 3), (4, 5, 1000000))),
            (TALL, (8, 1), ((3, 5), (2, 4), (0, 9), (8, 1))),
        ):
            self.told(other, with_guest, sale, row)

    def test_up_to_six(self):
        for things in range(1, 7):
            for guests in range(1, 6):
                sale = mixed_sales(guests, things, 1000000, 1)[0]
                other = self.asked(with_guest, sale, column(things))
                with self.subTest(sale=sale):
                    self.assertIs(is_sale(other), True)
                    self.assertEqual(len(other), guests + 1)
                    self.assertEqual(other[:-1], sale)
                    self.assertEqual(other[-1], column(things))

    def test_no_room_for_a_seventh(self):
        for things in range(1, 7):
            for guests in (6, 7):
                with self.subTest(guests=guests, things=things):
                    self.refused(NoRoom, with_guest, ((4,) * things,) * guests, column(things))

    def test_many_things_leave_room_for_a_guest(self):
        self.told(((4,) * 6,) * 6, with_guest, ((4,) * 6,) * 5, (4,) * 6)
        self.told(((4,) * 7,) * 2, with_guest, ((4,) * 7,), (4,) * 7)

    def test_bids_out_of_bounds_are_not_refused(self):
        self.told(((7,), (1000001,)), with_guest, ((7,),), (1000001,))
        self.told(((-1,), (-2,)), with_guest, ((-1,),), (-2,))
        self.told(((7,),), with_guest, (), (7,))

    def test_argument_names(self):
        self.assertEqual(with_guest(sale=((7,),), row=(4,)), ((7,), (4,)))


class WithThing(Told):
    def test_behind_the_others(self):
        for sale, bids, other in (
            (((7,),), (4,), ((7, 4),)),
            (((7,),), (0,), ((7, 0),)),
            (((7,), (4,)), (1, 1000000), ((7, 1), (4, 1000000))),
            (((1, 2, 3),), (4,), ((1, 2, 3, 4),)),
            (TALL, (6, 7, 8), ((3, 5, 6), (2, 4, 7), (0, 9, 8))),
        ):
            self.told(other, with_thing, sale, bids)

    def test_up_to_six(self):
        for guests in range(1, 7):
            for things in range(1, 6):
                sale = mixed_sales(guests, things, 1000000, 1)[0]
                other = self.asked(with_thing, sale, column(guests))
                with self.subTest(sale=sale):
                    self.assertIs(is_sale(other), True)
                    self.assertEqual([len(row) for row in other], [things + 1] * guests)
                    self.assertEqual(tuple(row[:-1] for row in other), sale)
                    self.assertEqual(bids_for(other, things), column(guests))

    def test_no_room_for_a_seventh(self):
        for guests in range(1, 7):
            for things in (6, 7):
                with self.subTest(guests=guests, things=things):
                    self.refused(NoRoom, with_thing, ((4,) * things,) * guests, column(guests))

    def test_many_guests_leave_room_for_a_thing(self):
        self.told(((4,) * 6,) * 6, with_thing, ((4,) * 5,) * 6, (4,) * 6)
        self.told(((4,) * 2,) * 7, with_thing, ((4,),) * 7, (4,) * 7)

    def test_bids_out_of_bounds_are_not_refused(self):
        self.told(((7, 1000001),), with_thing, ((7,),), (1000001,))
        self.told(((-1, -2),), with_thing, ((-1,),), (-2,))
        self.told(((7,), (8,)), with_thing, ((), ()), (7, 8))

    def test_argument_names(self):
        self.assertEqual(with_thing(sale=((7,),), bids=(4,)), ((7, 4),))


class WithoutGuest(Told):
    def test_the_first_one_in_the_middle_the_last(self):
        for guest, other in (
            (0, ((2, 4), (0, 9))), (1, ((3, 5), (0, 9))), (2, ((3, 5), (2, 4))),
        ):
            self.told(other, without_guest, TALL, guest)
        self.told(((4,),), without_guest, ((7,), (4,)), 0)
        self.told(((7,),), without_guest, ((7,), (4,)), 1)

    def test_equal_rows(self):
        for guest in range(3):
            self.told(((7, 4), (7, 4)), without_guest, ((7, 4),) * 3, guest)

    def test_every_guest_of_every_shape(self):
        for guests, things in SHAPES:
            if guests > 1:
                sale = mixed_sales(guests, things, 1000000, 1)[0]
                for guest in range(guests):
                    self.told(sale[:guest] + sale[guest + 1:], without_guest, sale, guest)

    def test_the_only_one(self):
        for things in range(1, 8):
            for bid in (0, 7, 1000000):
                self.refused(NoSale, without_guest, ((bid,) * things,), 0)

    def test_one_thing_alone_is_not_refused(self):
        self.told(((7,),) * 5, without_guest, ((7,),) * 6, 3)

    def test_somewhat_out_of_bounds_is_answered(self):
        self.told(((7,) * 7,) * 6, without_guest, ((7,) * 7,) * 7, 6)
        self.told(((-1,),), without_guest, ((-1,), (1000001,)), 1)

    def test_what_came_last_goes_again(self):
        for guests, things in SHAPES:
            if guests < 6:
                for sale in mixed_sales(guests, things, 1000000, 2):
                    self.told(sale, without_guest, with_guest(sale, column(things)), guests)

    def test_argument_names(self):
        self.assertEqual(without_guest(sale=((7,), (4,)), guest=0), ((4,),))


class WithoutThing(Told):
    def test_the_first_one_in_the_middle_the_last(self):
        sale = ((1, 2, 3), (4, 5, 6))
        for thing, other in (
            (0, ((2, 3), (5, 6))), (1, ((1, 3), (4, 6))), (2, ((1, 2), (4, 5))),
        ):
            self.told(other, without_thing, sale, thing)
        self.told(((4,),), without_thing, ((7, 4),), 0)
        self.told(((7,),), without_thing, ((7, 4),), 1)

    def test_equal_bids(self):
        for thing in range(3):
            self.told(((7, 7), (4, 4)), without_thing, ((7, 7, 7), (4, 4, 4)), thing)

    def test_every_thing_of_every_shape(self):
        for guests, things in SHAPES:
            if things > 1:
                sale = mixed_sales(guests, things, 1000000, 1)[0]
                for thing in range(things):
                    columns = turned(sale)
                    self.told(turned(columns[:thing] + columns[thing + 1:]), without_thing, sale, thing)

    def test_the_only_one(self):
        for guests in range(1, 8):
            for bid in (0, 7, 1000000):
                self.refused(NoSale, without_thing, ((bid,),) * guests, 0)

    def test_one_guest_alone_is_not_refused(self):
        self.told(((7,) * 5,), without_thing, ((7,) * 6,), 3)

    def test_somewhat_out_of_bounds_is_answered(self):
        self.told(((7,) * 6,) * 7, without_thing, ((7,) * 7,) * 7, 6)
        self.told(((-1,),), without_thing, ((-1, 1000001),), 1)

    def test_what_came_last_goes_again(self):
        for guests, things in SHAPES:
            if things < 6:
                for sale in mixed_sales(guests, things, 1000000, 2):
                    self.told(sale, without_thing, with_thing(sale, column(guests)), things)

    def test_argument_names(self):
        self.assertEqual(without_thing(sale=((7, 4),), thing=0), ((4,),))


class Renamed(Told):
    def test_known_sales(self):
        for sale, guests, things, other in (
            (((7,),), (0,), (0,), ((7,),)),
            (((7,), (4,)), (1, 0), (0,), ((4,), (7,))),
            (((7, 4),), (0,), (1, 0), ((4, 7),)),
            (((1, 2), (3, 4)), (0, 1), (0, 1), ((1, 2), (3, 4))),
            (((1, 2), (3, 4)), (1, 0), (0, 1), ((3, 4), (1, 2))),
            (((1, 2), (3, 4)), (0, 1), (1, 0), ((2, 1), (4, 3))),
            (((1, 2), (3, 4)), (1, 0), (1, 0), ((4, 3), (2, 1))),
        ):
            self.told(other, renamed, sale, guests, things)

    def test_numbers_that_go_round_in_three(self):
        tall = ((1,), (2,), (3,))
        self.told(((3,), (1,), (2,)), renamed, tall, (1, 2, 0), (0,))
        self.told(((2,), (3,), (1,)), renamed, tall, (2, 0, 1), (0,))
        wide = ((1, 2, 3),)
        self.told(((3, 1, 2),), renamed, wide, (0,), (1, 2, 0))
        self.told(((2, 3, 1),), renamed, wide, (0,), (2, 0, 1))
        both = ((1, 2, 3), (4, 5, 6), (7, 8, 9))
        self.told(((9, 7, 8), (3, 1, 2), (6, 4, 5)), renamed, both, (1, 2, 0), (1, 2, 0))
        self.told(((8, 9, 7), (2, 3, 1), (5, 6, 4)), renamed, both, (1, 2, 0), (2, 0, 1))
        self.told(((6, 4, 5), (9, 7, 8), (3, 1, 2)), renamed, both, (2, 0, 1), (1, 2, 0))

    def held(self, sale, guests, things):
        other = self.asked(renamed, sale, guests, things)
        self.assertIs(is_sale(other), True)
        self.assertEqual((len(other), len(other[0])), (len(sale), len(sale[0])))
        for guest, row in enumerate(sale):
            for thing, bid in enumerate(row):
                self.assertEqual(other[guests[guest]][things[thing]], bid, (sale, guests, things))
        self.assertEqual(renamed(other, reverse_of(guests), reverse_of(things)), sale)
        return other

    def goes_with_the_numbers(self, sale, guests, things):
        other = self.held(sale, guests, things)
        self.assertEqual(most(other), most(sale))
        for ask in (least, greatest):
            before = ask(sale)
            after = ask(other)
            self.assertEqual([after[number] for number in things], list(before), (sale, guests, things))
        told = best(sale)
        giving = tuple(None if told[k] is None else things[told[k]] for k in reverse_of(guests))
        self.assertEqual(worth_of(other, giving), most(other), (sale, guests, things))

    def test_all_numbers_of_small_shapes(self):
        for guests, things in itertools.product(range(1, 5), repeat=2):
            for sale in mixed_sales(guests, things, 1000000, 1):
                for guest_numbers in itertools.permutations(range(guests)):
                    for thing_numbers in itertools.permutations(range(things)):
                        self.held(sale, guest_numbers, thing_numbers)

    def test_most_least_and_greatest_go_with_the_numbers(self):
        for sale in small_sales()[::5]:
            for guests in itertools.permutations(range(len(sale))):
                for things in list(itertools.permutations(range(len(sale[0]))))[::3]:
                    self.goes_with_the_numbers(sale, guests, things)

    def test_every_shape(self):
        for guests, things in SHAPES:
            for sale in mixed_sales(guests, things, 1000000, 2):
                for guest_numbers in (tuple(range(guests)), (*range(1, guests), 0), tuple(range(guests))[::-1]):
                    for thing_numbers in ((*range(1, things), 0), (things - 1, *range(things - 1))):
                        self.goes_with_the_numbers(sale, guest_numbers, thing_numbers)

    def test_their_own_numbers_change_nothing(self):
        for sale in SALES:
            self.told(sale, renamed, sale, tuple(range(len(sale))), tuple(range(len(sale[0]))))

    def test_somewhat_out_of_bounds_is_answered(self):
        sale = tuple(tuple(range(10 * k - 3, 10 * k + 4)) for k in range(7))
        other = tuple(row[::-1] for row in sale[::-1])
        self.told(other, renamed, sale, (6, 5, 4, 3, 2, 1, 0), (6, 5, 4, 3, 2, 1, 0))

    def test_argument_names(self):
        self.assertEqual(renamed(sale=((7, 4), (1, 2)), guests=(1, 0), things=(0, 1)), ((1, 2), (7, 4)))


class TheWhole(unittest.TestCase):
    """With a guest more no price falls, with a thing more none of those of the others rises."""

    def no_price_falls(self, sale, other):
        for ask in (least, greatest):
            if any(after < before for before, after in zip(ask(sale), ask(other))):
                self.fail((ask.__name__, sale, other))

    def test_a_guest_more(self):
        for sale in small_sales()[::4]:
            if len(sale) < 6:
                for row in all_rows(sale, max(max(row) for row in sale) + 1):
                    self.no_price_falls(sale, with_guest(sale, row))

    def test_a_thing_more(self):
        for sale in small_sales()[::4]:
            for bids in all_rows(turned(sale), 2):
                self.no_price_falls(with_thing(sale, bids), sale)

    def test_a_guest_more_in_every_shape(self):
        for guests, things in SHAPES:
            for greatest_bid in (3, 1000000):
                for sale in mixed_sales(guests, things, greatest_bid, 3):
                    for guest in range(guests if guests > 1 else 0):
                        self.no_price_falls(without_guest(sale, guest), sale)

    def test_a_thing_more_in_every_shape(self):
        for guests, things in SHAPES:
            for greatest_bid in (3, 1000000):
                for sale in mixed_sales(guests, things, greatest_bid, 3):
                    if things > 1:
                        self.no_price_falls(sale, without_thing(sale, things - 1))


if __name__ == "__main__":
    unittest.main()
