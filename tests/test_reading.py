import re
import unittest

from tests.samples import SHAPES, WRITINGS, Told, mixed_sales
from truebid.errors import NoText
from truebid.reading import read
from truebid.writing import written

SIX = "1 2 3 4 5 6"
SEVEN = "1 2 3 4 5 6 7"
EVERY_SIGN = tuple(chr(code) for code in range(ord(" "), ord("~") + 1)) + ("\t", "\n", "\r")
MANY_FIGURES = ("1" * 900, "1" * 4300, "1" * 4301, "9" * 100000)
MANY_NOUGHTS = ("0" * 8, "0" * 4301, "0" * 4300 + "1", "0" * 100000)

WRONG_TEXTS = (
    # nothing, and blanks alone
    "", " ", "  ", "   ", "\t", "\n", " \n",
    # a blank too many
    " 7", "7 ", "  7", "7  ", "3  5", "3 5 ", " 3 5", "3 5 ;  2 4", "3 5  ; 2 4", "3 5 ; 2  4", "3 5 ; 2 4 ",
    " 3 5 ; 2 4", "3 5 ; 2 4 6", "1 2 ; 3 4 5", "1 0 ; 1",
    # a blank too few
    "3;5", "3 ;5", "3; 5", "3 5; 2 4", "3 5 ;2 4", "3 5;2 4", "35 ; 2 4", "3 5 ; 24",
    # a ; too many or too few, ahead or behind
    ";", " ;", "; ", " ; ", ";;", " ; ; ", " ;  ; ", "7 ;", "7 ; ", "7;", "; 7", " ; 7", ";7", "3 ; ; 5", "3 ;  ; 5",
    "3 ;; 5", "3 5 ; ; 2 4", "3 5 ;  ; 2 4", "3 5 ; 2 4 ;", "3 5 ; 2 4 ; ", "; 3 5 ; 2 4", " ; 3 5 ; 2 4",
    # rows of unequal length
    "1 2 ; 3", "1 ; 2 3", "1 2 ; 3 4 ; 5", "1 2 ; 3 4 ; 5 6 7", f"{SIX} ; 1 2 3 4 5", "1 ; 2 ; 3 4",
    # too many rows, too many bids in a row
    "1 ; 2 ; 3 ; 4 ; 5 ; 6 ; 7", " ; ".join([SIX] * 7), " ; ".join(["1"] * 100),
    SEVEN, f"{SEVEN} ; {SEVEN}", " ; ".join([SEVEN] * 6), f"{SIX} ; {SEVEN}", " ".join(["1"] * 100),
    # a nought ahead of other figures
    "00", "01", "007", "0000000", "0000001", "01000000", "3 05", "00 5", "3 5 ; 02 4", "3 5 ; 2 00", "0 00",
    # a bid that is too great
    "1000001", "1000010", "2000000", "9999999", "10000000", "3 1000001", "1000001 ; 1", "3 5 ; 2 1000001",
    # signs and other ways to write a number
    "+1", "-1", "-0", "+0", "1_0", "1.0", "1.", ".1", "1e3", "1E3", "0x1", "0b1", "0o7", "1,0", "1'0", "1L", "1j",
    "3 +5", "3 -5", "3 - 5", "3 5 ; 2 -4", "3 5 ; -2 4", "1_000", "3 5 ; 2 1_0", "1/1", "1*1", "(1)", "((1,),)", "[1]",
    # letters and other separators
    "a", "x y", "3 a", "3a", "a3", "3 5 ; b 4", "3 5 ; 2 4b", "None", "True", "nan", "inf", "3, 5", "3,5 ; 2,4",
    "3 5 : 2 4", "3 5 , 2 4", "3 5 | 2 4", "3 5 . 2 4", "~", "!", "\"7\"", "'7'", "7~", "#7",
    # tabs and row's ends
    "7\n", "\n7", "7\t", "\t7", "7\r", "\r7", "7\r\n", "3\t5", "3\n5", "3\r5", "3 5\n", "3 5 ;\t2 4", "3 5\t; 2 4",
    "3 5\t;\t2 4", "3 5 ;\n2 4", "3 5\n;\n2 4", "3 5\n2 4", "3 5 ; 2 4\n", "3 5 ; 2 4\t", "\n3 5 ; 2 4", "3 5 ; 2\n4",
    "3 5 ; 2\t 4", "3 5 ; 2 \t4", "3 5 ; \n2 4", "3 \n5 ; 2 4",
) + MANY_FIGURES + MANY_NOUGHTS


def is_writing(text):
    """What a writing is, told in another way than the program goes."""
    bid = "(0|[1-9][0-9]{0,5}|1000000)"
    row = f"{bid}( {bid}){{0,5}}"
    if re.fullmatch(f"{row}( ; {row}){{0,5}}", text) is None:
        return False
    return len({part.count(" ") for part in text.split(" ; ")}) == 1


class Read(Told):
    def test_writings(self):
        for sale, text in WRITINGS:
            self.told(sale, read, text)

    def test_every_shape(self):
        for guests, things in SHAPES:
            for greatest_bid in (0, 9, 1000000):
                for sale in mixed_sales(guests, things, greatest_bid, 5):
                    self.told(sale, read, written(sale))

    def test_bids_at_the_edges(self):
        for bid in (0, 1, 9, 10, 19, 99, 100, 101, 999, 1000, 9999, 10000, 99999, 100000, 999999, 1000000):
            self.told(((bid,),), read, f"{bid}")
            self.told(((bid, 1), (2, bid)), read, f"{bid} 1 ; 2 {bid}")

    def test_wrong_texts(self):
        for text in WRONG_TEXTS:
            with self.subTest(text=text[:40], length=len(text)):
                self.refused(NoText, read, text)

    def test_many_figures_in_any_place(self):
        for figures in MANY_FIGURES + MANY_NOUGHTS:
            for text in (f"{figures} 1", f"1 {figures}", f"{figures} ; 1", f"1 ; {figures}", f"1 2 ; {figures} 3"):
                with self.subTest(length=len(text)):
                    self.refused(NoText, read, text)

    def checked(self, text):
        with self.subTest(text=text):
            if is_writing(text):
                self.assertEqual(written(self.asked(read, text)), text)
            else:
                self.refused(NoText, read, text)

    def test_a_sign_more_in_any_place(self):
        for text in ("7", "0", "1000000", "3 5", "3 ; 5", "10 5 ; 2 0", "1 2 ; 3 4 ; 5 6"):
            for place in range(len(text) + 1):
                for sign in EVERY_SIGN + ("\r\n", " ; ", "  "):
                    self.checked(text[:place] + sign + text[place:])

    def test_a_sign_less_or_another_in_any_place(self):
        for text in ("7", "0", "1000000", "3 5", "3 ; 5", "10 5 ; 2 0", "1 2 ; 3 4 ; 5 6"):
            for place in range(len(text)):
                for sign in ("", " ", ";", "\t", "\n", "\r", "+", "-", "_", ".", "a", "0", "9"):
                    self.checked(text[:place] + sign + text[place + 1:])

    def test_short_texts_of_few_signs(self):
        texts = [""]
        for _ in range(6):
            texts = texts + [text + sign for text in texts if len(text) == len(texts[-1]) for sign in "01 ;"]
        for text in texts:
            self.checked(text)

    def test_argument_name(self):
        self.assertEqual(read(text="7"), ((7,),))


if __name__ == "__main__":
    unittest.main()
