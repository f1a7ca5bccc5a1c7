"""How far a spot is from a side, squared."""

import itertools
import unittest
from fractions import Fraction

from by_fractions import fraction, is_on, place, square_by_shares
from sheetlay.distance import square
from sheetlay.spots import spot

GREAT = 10 ** 30
LEVEL = (spot(0, 0), spot(4, 0))
SLANTED = (spot(0, 0), spot(4, 2))


class Square(unittest.TestCase):
    def test_on_the_side(self):
        for p in (spot(1, 0), spot(2, 0), spot(7, 0, 2), spot(1, 0, 9)):
            self.assertEqual(square(p, LEVEL), (0, 1))
        for p in (spot(2, 1), spot(2, 1, 3), spot(10, 5, 3)):
            self.assertEqual(square(p, SLANTED), (0, 1))

    def test_at_an_end(self):
        for side in (LEVEL, SLANTED):
            for p in side:
                self.assertEqual(square(p, side), (0, 1))

    def test_beside_it(self):
        self.assertEqual(square(spot(1, 3), LEVEL), (9, 1))
        self.assertEqual(square(spot(3, -2), LEVEL), (4, 1))
        self.assertEqual(square(spot(0, 3), LEVEL), (9, 1))
        self.assertEqual(square(spot(4, -5), LEVEL), (25, 1))
        self.assertEqual(square(spot(1, 1), SLANTED), (1, 5))
        self.assertEqual(square(spot(2, 0), SLANTED), (4, 5))

    def test_beyond_an_end(self):
        self.assertEqual(square(spot(-3, 4), LEVEL), (25, 1))
        self.assertEqual(square(spot(7, -4), LEVEL), (25, 1))
        self.assertEqual(square(spot(-2, 0), LEVEL), (4, 1))
        self.assertEqual(square(spot(5, 0), LEVEL), (1, 1))
        self.assertEqual(square(spot(-2, -1), SLANTED), (5, 1))
        self.assertEqual(square(spot(6, 3), SLANTED), (5, 1))
        # Straight across from the end, and from there on.
        self.assertEqual(square(spot(3, 4), SLANTED), (5, 1))
        self.assertEqual(square(spot(4, 4), SLANTED), (4, 1))
        self.assertEqual(square(spot(1, -2), SLANTED), (5, 1))

    def test_upright(self):
        side = (spot(1, 5), spot(1, -1))
        for p, expected in ((spot(3, 0), 4), (spot(-1, 5), 4), (spot(1, 7), 4), (spot(2, -3), 5), (spot(1, 2), 0)):
            self.assertEqual(square(p, side), (expected, 1))

    def test_broken_places(self):
        self.assertEqual(square(spot(1, 1, 2), (spot(0, 0), spot(1, 0))), (1, 4))
        self.assertEqual(square(spot(1, 1, 3), (spot(1, 0, 2), spot(0, 1, 2))), (1, 72))
        self.assertEqual(square(spot(0, 1, 3), (spot(1, 1, 2), spot(3, 1, 2))), (5, 18))
        self.assertEqual(square(spot(5, 5, 7), (spot(1, 0, 5), spot(1, 2, 5))), (89, 245))

    def test_both_ways_along_the_side(self):
        for x, y in itertools.product(range(-2, 7), repeat=2):
            self.assertEqual(square(spot(x, y), SLANTED), square(spot(x, y), SLANTED[::-1]))

    def test_on_a_grid(self):
        spots = [spot(x, y, w) for w in (1, 2, 3) for x in range(-2, 3) for y in range(-1, 3)]
        ends = [spot(0, 0), spot(1, 1), spot(-1, 1, 2), spot(2, -1, 3), spot(0, 2)]
        for side in itertools.permutations(ends, 2):
            for p in spots:
                told = square(p, side)
                self.assertEqual(told, square_by_shares(p, side).as_integer_ratio())
                self.assertEqual(told == (0, 1), is_on(p, side))

    def test_no_spot_of_the_side_is_nearer(self):
        side = (spot(-3, 1), spot(5, 6))
        (x, y), (u, v) = place(side[0]), place(side[1])
        for p in (spot(0, 0), spot(9, 9), spot(-4, 3), spot(1, 3), spot(5, 2, 3)):
            a, b = place(p)
            near = [(x + s * (u - x) - a) ** 2 + (y + s * (v - y) - b) ** 2 for s in (Fraction(k, 90) for k in range(91))]
            self.assertLessEqual(fraction(square(p, side)), min(near))
            self.assertLess(min(near) - fraction(square(p, side)), 1)

    def test_great_numbers(self):
        side = (spot(-GREAT, -GREAT, 7), spot(GREAT, GREAT - 1))
        for p in (spot(GREAT, -GREAT), spot(1, 1, GREAT), spot(-GREAT, 1), spot(GREAT, GREAT), spot(GREAT - 1, 3, GREAT)):
            self.assertEqual(square(p, side), square_by_shares(p, side).as_integer_ratio())
        self.assertEqual(square(spot(GREAT, GREAT), side), (1, 1))
        self.assertEqual(square(spot(0, GREAT), (spot(-GREAT, 0), spot(GREAT, 0))), (GREAT ** 2, 1))
        self.assertEqual(square(spot(0, 1, GREAT), (spot(-GREAT, 0), spot(GREAT, 0))), (1, GREAT ** 2))

    def test_a_number_is_told(self):
        told = square(spot(1, 1), SLANTED)
        self.assertEqual((type(told), type(told[0]), type(told[1])), (tuple, int, int))


if __name__ == "__main__":
    unittest.main()
