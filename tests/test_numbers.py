"""Numbers in lowest form, what is reckoned with them, and their texts."""

import math
import sys
import unittest
from fractions import Fraction

from sheetlay.numbers import less, minus, number, number_text, plus, times

GREAT = 10 ** 30
WHOLES = (-GREAT, -GREAT + 1, -360, -12, -7, -2, -1, 0, 1, 2, 3, 12, 35, 360, GREAT - 1, GREAT)
NUMBERS = [number(n, d) for n in (-GREAT, -12, -5, -1, 0, 1, 4, 9, GREAT) for d in (1, 2, 6, 7, GREAT - 1, GREAT)]


def pair(value):
    return (value.numerator, value.denominator)


class NumberCase(unittest.TestCase):
    def assert_number(self, told, expected):
        self.assertIs(type(told), tuple)
        self.assertEqual([type(part) for part in told], [int, int])
        self.assertGreaterEqual(told[1], 1)
        self.assertEqual(math.gcd(told[0], told[1]), 1)
        self.assertEqual(told, expected)


class Making(NumberCase):
    def test_lowest_form(self):
        self.assert_number(number(6, 4), (3, 2))
        self.assert_number(number(3, 2), (3, 2))
        self.assert_number(number(12, 4), (3, 1))
        self.assert_number(number(-6, 4), (-3, 2))

    def test_d_is_1_where_it_is_not_told(self):
        self.assert_number(number(5), (5, 1))
        self.assert_number(number(-5), (-5, 1))
        self.assert_number(number(0), (0, 1))

    def test_d_below_0(self):
        self.assert_number(number(6, -4), (-3, 2))
        self.assert_number(number(-6, -4), (3, 2))
        self.assert_number(number(1, -1), (-1, 1))

    def test_nought_is_one_tuple(self):
        for d in (1, -1, 2, -2, 360, GREAT, -GREAT):
            self.assert_number(number(0, d), (0, 1))

    def test_great_numbers(self):
        self.assert_number(number(GREAT, -GREAT), (-1, 1))
        self.assert_number(number(-GREAT, GREAT - 1), (-GREAT, GREAT - 1))
        self.assert_number(number(GREAT, 15), (2 * 10 ** 29, 3))
        self.assert_number(number(1, -GREAT), (-1, GREAT))

    def test_every_pair(self):
        for n in WHOLES:
            for d in WHOLES:
                if d != 0:
                    with self.subTest(n=n, d=d):
                        self.assert_number(number(n, d), pair(Fraction(n, d)))

    def test_one_number_told_by_different_pairs_is_one_tuple(self):
        for n, d in ((1, 2), (-3, 7), (0, 1), (GREAT, 3)):
            for k in (-GREAT, -3, -1, 1, 2, 10):
                self.assertEqual(number(n * k, d * k), (n, d))


class Reckoning(NumberCase):
    def test_ordinary(self):
        self.assert_number(plus((1, 2), (1, 3)), (5, 6))
        self.assert_number(minus((1, 2), (1, 3)), (1, 6))
        self.assert_number(minus((1, 3), (1, 2)), (-1, 6))
        self.assert_number(times((2, 3), (5, 7)), (10, 21))

    def test_what_comes_is_in_lowest_form(self):
        self.assert_number(plus((1, 6), (1, 3)), (1, 2))
        self.assert_number(plus((1, 2), (1, 2)), (1, 1))
        self.assert_number(minus((5, 6), (1, 3)), (1, 2))
        self.assert_number(minus((2, 7), (2, 7)), (0, 1))
        self.assert_number(plus((2, 7), (-2, 7)), (0, 1))
        self.assert_number(times((2, 3), (3, 2)), (1, 1))
        self.assert_number(times((-2, 3), (0, 1)), (0, 1))

    def test_every_pair(self):
        for a in NUMBERS:
            for b in NUMBERS:
                with self.subTest(a=a, b=b):
                    one = Fraction(*a)
                    other = Fraction(*b)
                    self.assert_number(plus(a, b), pair(one + other))
                    self.assert_number(minus(a, b), pair(one - other))
                    self.assert_number(times(a, b), pair(one * other))

    def test_what_was_told_is_handed_in_again(self):
        told = (GREAT, GREAT - 1)
        expected = Fraction(*told)
        for step in range(6):
            told = plus(times(told, told), (1, GREAT - 7))
            expected = expected * expected + Fraction(1, GREAT - 7)
            self.assert_number(told, pair(expected))


class Comparing(unittest.TestCase):
    def test_ordinary(self):
        self.assertIs(less((1, 3), (1, 2)), True)
        self.assertIs(less((1, 2), (1, 3)), False)
        self.assertIs(less((-1, 2), (-1, 3)), True)
        self.assertIs(less((-1, 2), (0, 1)), True)
        self.assertIs(less((0, 1), (-1, 2)), False)

    def test_neither_of_two_alike_ones_is_less(self):
        for a in NUMBERS:
            self.assertIs(less(a, a), False)

    def test_every_pair(self):
        for a in NUMBERS:
            for b in NUMBERS:
                with self.subTest(a=a, b=b):
                    self.assertIs(less(a, b), Fraction(*a) < Fraction(*b))

    def test_great_numbers_near_one_another(self):
        self.assertIs(less((GREAT - 1, GREAT), (GREAT, GREAT + 1)), True)
        self.assertIs(less((GREAT, GREAT + 1), (GREAT - 1, GREAT)), False)


class Texts(unittest.TestCase):
    def test_whole_ones_have_no_stroke(self):
        self.assertEqual(number_text((7, 1)), "7")
        self.assertEqual(number_text((-7, 1)), "-7")
        self.assertEqual(number_text((100, 1)), "100")
        self.assertEqual(number_text((1, 1)), "1")

    def test_nought(self):
        self.assertEqual(number_text((0, 1)), "0")

    def test_parts_have_a_stroke(self):
        self.assertEqual(number_text((3, 2)), "3/2")
        self.assertEqual(number_text((-3, 2)), "-3/2")
        self.assertEqual(number_text((1, 10)), "1/10")
        self.assertEqual(number_text((-1, 100)), "-1/100")

    def test_great_numbers(self):
        self.assertEqual(number_text((GREAT, 1)), "1" + "0" * 30)
        self.assertEqual(number_text((-GREAT, GREAT - 1)), "-1" + "0" * 30 + "/" + "9" * 30)

    def test_every_count_of_figures(self):
        for many in range(200):
            nines = 10 ** many - 1
            self.assertEqual(number_text((10 ** many, 1)), "1" + "0" * many)
            self.assertEqual(number_text((-(10 ** many) - 5, 2 * 10 ** many + 1)), f"{-(10 ** many) - 5}/{2 * 10 ** many + 1}")
            self.assertEqual(number_text((nines, 1)), "9" * many or "0")

    def test_numbers_that_grew_beyond_what_python_writes_at_once(self):
        great = (GREAT, 7)
        for step in range(8):
            great = times(great, great)
        figures = 30 * 2 ** 8
        self.assertGreater(figures, sys.get_int_max_str_digits())
        self.assertEqual(great[0], GREAT ** (2 ** 8))
        text = number_text(great)
        self.assertEqual(text, "1" + "0" * figures + "/" + str(7 ** (2 ** 8)))
        self.assertEqual(number_text(minus((0, 1), number(great[0]))), "-1" + "0" * figures)


if __name__ == "__main__":
    unittest.main()
