import copy
import unittest

from tests.samples import WRITINGS, no_sales
from truebid.errors import NoSale
from truebid.writing import written


class Written(unittest.TestCase):
    def test_exact_texts(self):
        for sale, text in WRITINGS:
            with self.subTest(sale=sale):
                self.assertEqual(written(sale), text)
                self.assertIs(type(written(sale)), str)

    def test_every_length_of_a_bid(self):
        for bid in (0, 9, 10, 99, 100, 999, 1000, 9999, 10000, 99999, 100000, 999999, 1000000):
            with self.subTest(bid=bid):
                self.assertEqual(written(((bid, 1), (2, bid))), f"{bid} 1 ; 2 {bid}")

    def test_no_sale_is_refused(self):
        for thing in no_sales():
            with self.subTest(thing=thing):
                with self.assertRaises(NoSale):
                    written(thing)

    def test_the_same_again(self):
        for sale, text in WRITINGS:
            before = copy.deepcopy(sale)
            with self.subTest(sale=sale):
                self.assertEqual(written(sale), written(sale))
                self.assertEqual(sale, before)

    def test_no_sale_is_refused_again_and_not_changed(self):
        for thing in no_sales():
            before = repr(thing)
            with self.subTest(thing=thing):
                for _ in range(2):
                    with self.assertRaises(NoSale):
                        written(thing)
                self.assertEqual(repr(thing), before)

    def test_argument_name(self):
        self.assertEqual(written(sale=((7,),)), "7")


if __name__ == "__main__":
    unittest.main()
