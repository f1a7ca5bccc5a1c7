"""Words, numbers and spots as they stand in texts."""

import itertools
import unittest
from fractions import Fraction

from by_fractions import fraction, place
from sheetlay.words import is_word, read_number, read_spot


class Words(unittest.TestCase):
    def test_one_to_eight_small_letters(self):
        for text in ("a", "z", "soil", "abcdefgh", "stuvwxyz", "ijklmnop", "qr", "zzzzzzzz"):
            self.assertIs(is_word(text), True, text)

    def test_others(self):
        for text in (
            "", "abcdefghi", "A", "aB", "a1", "a_b", "a-b", "a b", " a", "a ", "a\n", "\u00e4", "\u0430", "a|b", "a,b",
        ):
            self.assertIs(is_word(text), False, text)


def is_written_right(text):
    # Every number that can be written with these signs, told one by one.
    above, stroke, below = text.partition("/")
    figures = above[1:] if above[:1] == "-" else above
    for part in (figures, below) if stroke else (figures,):
        if not part or set(part) - set("0123456789") or (part[0] == "0" and part != "0"):
            return False
    if above == "-0" or (stroke and below in ("0", "1")):
        return False
    return not stroke or Fraction(int(above), int(below)).denominator == int(below)


class Numbers(unittest.TestCase):
    def test_right_ones(self):
        for text, expected in (
            ("0", (0, 1)), ("7", (7, 1)), ("-7", (-7, 1)), ("10", (10, 1)), ("3/2", (3, 2)), ("-3/2", (-3, 2)),
            ("999999", (999999, 1)), ("-999999", (-999999, 1)), ("1/999999", (1, 999999)),
            ("-999998/999999", (-999998, 999999)), ("100000/3", (100000, 3)),
        ):
            self.assertEqual(read_number(text), expected, text)

    def test_wrong_ones(self):
        for text in (
            "", "-", "/", "/2", "1/", "-/2", "+1", "1/+2", "1/-2", "--1", "01", "-01", "00", "-0", "0/1", "0/2", "-0/2",
            "1/1", "5/1", "2/4", "6/3", "1/0", "0/0", "1/02", "1/2/3", " 1", "1 ", "1 /2", "1.5", "1e3", "1_0", "x",
            "\u0661", "\u00b2", "1\n", "0x1",
        ):
            self.assertIsNone(read_number(text), repr(text))

    def test_seven_figures(self):
        for text in ("1000000", "-1000000", "1/1000000", "1000001/2", "1234567/7654321", "0000001", "9" * 9999):
            self.assertIsNone(read_number(text), text[:20])

    def test_every_short_text(self):
        for n in range(1, 6):
            for signs in itertools.product("-/0123"[:6 if n < 5 else 5], repeat=n):
                text = "".join(signs)
                told = read_number(text)
                self.assertEqual(told is not None, is_written_right(text), text)
                if told is not None:
                    self.assertEqual(fraction(told), Fraction(text))


class Spots(unittest.TestCase):
    def test_one_spot_for_each_place(self):
        for text, expected in (
            ("0,0", (0, 0, 1)), ("1,2", (1, 2, 1)), ("-1/2,3", (-1, 6, 2)), ("1/2,1/3", (3, 2, 6)), ("1/2,3/2", (1, 3, 2)),
            ("5/4,-1/6", (15, -2, 12)),
        ):
            self.assertEqual(read_spot(text), expected)
            self.assertEqual(place(read_spot(text)), tuple(Fraction(part) for part in text.split(",")))

    def test_no_spots(self):
        for text in ("", ",", "1", "1,", ",1", "1,2,3", "1,2,", ",1,2", "1;2", "1, 2", "1,+2", "01,2", "2/4,1", "1,-0"):
            self.assertIsNone(read_spot(text), text)


if __name__ == "__main__":
    unittest.main()
