import unittest

from truebid.errors import NoRoom, NoSale, NoText, SaleError

REFUSALS = (NoSale, NoText, NoRoom)


class Errors(unittest.TestCase):
    def test_each_refusal_is_caught_as_sale_error_and_value_error(self):
        for refusal in REFUSALS:
            for caught in (refusal, SaleError, ValueError):
                with self.subTest(refusal=refusal, caught=caught):
                    with self.assertRaises(caught):
                        raise refusal("words")

    def test_no_refusal_is_caught_as_another(self):
        for refusal in REFUSALS:
            for other in REFUSALS:
                if other is not refusal:
                    with self.subTest(refusal=refusal, other=other):
                        self.assertFalse(issubclass(refusal, other))

    def test_sale_error_stands_straight_below_value_error(self):
        self.assertEqual(SaleError.__bases__, (ValueError,))

    def test_sale_error_is_caught_as_no_refusal_below_it(self):
        for refusal in REFUSALS:
            with self.subTest(refusal=refusal):
                self.assertFalse(issubclass(SaleError, refusal))


if __name__ == "__main__":
    unittest.main()
