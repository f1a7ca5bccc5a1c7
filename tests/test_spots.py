"""Spots, which is ahead, turns, and putting things in order."""

import math
import unittest

from by_fractions import place
from sheetlay.sides import common
from sheetlay.spots import ahead, in_order, spot, turn

GREAT = 10 ** 30
SMALL_SPOTS = [spot(x, y, w) for x in (-2, 0, 1, 3) for y in (-1, 0, 2) for w in (1, 2, 3)]
# Pairs of places that part only in the last figure of great numbers over
# great ones, where anything but whole reckoning goes astray.
GREAT_SPOTS = [
    spot(GREAT, GREAT - 1, GREAT - 2),
    spot(GREAT - 1, GREAT - 2, GREAT - 3),
    spot(-GREAT, GREAT, GREAT - 1),
    spot(GREAT, -GREAT, 1),
    spot(-GREAT, -GREAT, 7),
    spot(1, -1, GREAT),
    spot(-1, 1, GREAT - 1),
]


def turn_of_places(a, b, c):
    area = (b[0] - a[0]) * (c[1] - a[1]) - (b[1] - a[1]) * (c[0] - a[0])
    return 1 if area > 0 else -1 if area < 0 else 0


class Making(unittest.TestCase):
    def assert_spot(self, told, expected):
        self.assertIs(type(told), tuple)
        self.assertEqual([type(part) for part in told], [int, int, int])
        self.assertGreaterEqual(told[2], 1)
        self.assertEqual(math.gcd(*told), 1)
        self.assertEqual(told, expected)

    def test_w_is_1_where_it_is_not_told(self):
        self.assert_spot(spot(3, -4), (3, -4, 1))
        self.assert_spot(spot(0, 0), (0, 0, 1))
        self.assert_spot(spot(6, 4), (6, 4, 1))

    def test_lowest_form(self):
        self.assert_spot(spot(2, 4, 6), (1, 2, 3))
        self.assert_spot(spot(1, 2, 3), (1, 2, 3))
        self.assert_spot(spot(4, 8, 4), (1, 2, 1))

    def test_only_a_divisor_of_all_three_is_taken_out(self):
        self.assert_spot(spot(6, 10, 15), (6, 10, 15))
        self.assert_spot(spot(2, 4, 3), (2, 4, 3))
        self.assert_spot(spot(2, 3, 2), (2, 3, 2))
        self.assert_spot(spot(3, 2, 2), (3, 2, 2))
        self.assert_spot(spot(12, 18, 8), (6, 9, 4))

    def test_w_below_0(self):
        self.assert_spot(spot(2, 4, -6), (-1, -2, 3))
        self.assert_spot(spot(-3, 5, -1), (3, -5, 1))
        self.assert_spot(spot(0, 0, -9), (0, 0, 1))

    def test_nought_in_one_place(self):
        self.assert_spot(spot(0, 4, 6), (0, 2, 3))
        self.assert_spot(spot(4, 0, 6), (2, 0, 3))
        self.assert_spot(spot(0, 0, 6), (0, 0, 1))

    def test_great_numbers(self):
        self.assert_spot(spot(GREAT, -GREAT, GREAT), (1, -1, 1))
        self.assert_spot(spot(GREAT, GREAT - 1, -GREAT), (-GREAT, 1 - GREAT, GREAT))
        self.assert_spot(spot(0, GREAT, 3 * 10 ** 29), (0, 10, 3))

    def test_one_place_told_by_different_numbers_is_one_tuple(self):
        for p in SMALL_SPOTS + GREAT_SPOTS:
            for k in (-GREAT, -6, -1, 1, 2, 35, GREAT):
                with self.subTest(p=p, k=k):
                    self.assert_spot(spot(p[0] * k, p[1] * k, p[2] * k), p)


class Ahead(unittest.TestCase):
    def test_farther_left(self):
        self.assertIs(ahead((0, 9, 1), (1, 0, 1)), True)
        self.assertIs(ahead((1, 0, 1), (0, 9, 1)), False)

    def test_at_one_height(self):
        self.assertIs(ahead((1, 2, 2), (2, 3, 3)), True)
        self.assertIs(ahead((2, 3, 3), (1, 2, 2)), False)
        self.assertIs(ahead((-2, 5, 1), (-1, 5, 1)), True)

    def test_straight_over_one_another(self):
        self.assertIs(ahead((1, 0, 2), (1, 1, 2)), True)
        self.assertIs(ahead((1, 1, 2), (1, 0, 2)), False)
        self.assertIs(ahead((3, -1, 3), (1, 0, 1)), True)
        self.assertIs(ahead((1, 0, 1), (3, -1, 3)), False)

    def test_places_not_numbers_are_compared(self):
        self.assertIs(ahead((3, 0, 4), (1, 0, 1)), True)
        self.assertIs(ahead((1, 0, 1), (3, 0, 4)), False)
        self.assertIs(ahead((-1, 0, 1), (-3, 0, 4)), True)

    def test_alike(self):
        for p in SMALL_SPOTS + GREAT_SPOTS:
            self.assertIs(ahead(p, p), False)

    def test_every_pair(self):
        some = SMALL_SPOTS + GREAT_SPOTS
        for p in some:
            for q in some:
                with self.subTest(p=p, q=q):
                    self.assertIs(ahead(p, q), place(p) < place(q))


class Turns(unittest.TestCase):
    def assert_turn(self, a, b, c, expected):
        told = turn(a, b, c)
        self.assertIs(type(told), int)
        self.assertEqual(told, expected)

    def test_the_three_turns(self):
        self.assert_turn((0, 0, 1), (1, 0, 1), (1, 1, 1), 1)
        self.assert_turn((0, 0, 1), (1, 0, 1), (1, -1, 1), -1)
        self.assert_turn((0, 0, 1), (1, 0, 1), (2, 0, 1), 0)

    def test_in_one_row(self):
        self.assert_turn((0, 0, 1), (1, 1, 1), (5, 5, 3), 0)
        self.assert_turn((0, 0, 1), (5, 5, 1), (1, 1, 3), 0)
        self.assert_turn((0, 0, 1), (1, 2, 1), (-3, -6, 2), 0)
        self.assert_turn((1, -7, 2), (1, 0, 2), (1, 1, 2), 0)

    def test_alike_spots(self):
        a = (1, 2, 3)
        b = (-4, 5, 7)
        self.assert_turn(a, a, b, 0)
        self.assert_turn(a, b, a, 0)
        self.assert_turn(b, a, a, 0)
        self.assert_turn(a, a, a, 0)

    def test_great_numbers_over_great_ones(self):
        a = (0, 0, 1)
        b = spot(GREAT, GREAT - 1, GREAT - 3)
        self.assert_turn(a, b, spot(GREAT - 1, GREAT - 2, GREAT), -1)
        self.assert_turn(a, b, spot(GREAT - 2, GREAT - 1, GREAT), 1)
        self.assert_turn(a, b, spot(-GREAT, 1 - GREAT, 7), 0)

    def test_every_three(self):
        some = SMALL_SPOTS[::2] + GREAT_SPOTS
        for a in some:
            for b in some:
                for c in some:
                    expected = turn_of_places(place(a), place(b), place(c))
                    if turn(a, b, c) != expected:
                        self.fail((a, b, c, turn(a, b, c), expected))

    def test_what_was_told_is_handed_in_again(self):
        one = (spot(GREAT, 1, GREAT - 1), spot(-GREAT, -7, GREAT - 3))
        other = (spot(1, GREAT, GREAT - 7), spot(-1, -GREAT, 11))
        met = common(one, other)[1]
        self.assertGreater(met[2], GREAT)
        self.assert_turn(one[0], met, one[1], 0)
        self.assert_turn(other[0], met, other[1], 0)
        self.assert_turn(one[0], one[1], met, 0)
        self.assertIs(ahead(met, one[0]), True)
        self.assertIs(ahead(one[1], met), True)
        lifted = spot(met[0], met[1] + 1, met[2])
        self.assert_turn(one[1], one[0], lifted, 1)
        self.assertIs(ahead(met, lifted), True)


class InOrder(unittest.TestCase):
    def test_ordinary(self):
        self.assertEqual(in_order([3, 1, 2], lambda p, q: p < q), [1, 2, 3])
        self.assertEqual(in_order([3, 1, 2], lambda p, q: p > q), [3, 2, 1])
        self.assertEqual(in_order(["b", "c", "a", "b"], lambda p, q: p < q), ["a", "b", "b", "c"])

    def test_spots(self):
        some = [(1, 0, 1), (0, 5, 1), (1, -1, 2), (0, 1, 2), (1, 0, 1)]
        self.assertEqual(in_order(some, ahead), [(0, 1, 2), (0, 5, 1), (1, -1, 2), (1, 0, 1), (1, 0, 1)])

    def test_things_of_which_neither_comes_ahead_stay_as_they_stood(self):
        some = [(2, "a"), (1, "b"), (2, "c"), (1, "d"), (1, "e"), (2, "f"), (0, "g")]
        expected = [(0, "g"), (1, "b"), (1, "d"), (1, "e"), (2, "a"), (2, "c"), (2, "f")]
        self.assertEqual(in_order(some, lambda p, q: p[0] < q[0]), expected)
        self.assertEqual(in_order(some, lambda p, q: False), some)

    def test_every_short_list(self):
        for many in range(10):
            for seed in range(3 ** min(many, 6)):
                keys = [(seed // 3 ** (k % 6) + k // 6) % 3 for k in range(many)]
                some = list(zip(keys, range(many)))
                told = in_order(some, lambda p, q: p[0] < q[0])
                self.assertEqual(told, sorted(some))

    def test_empty_and_one(self):
        self.assertEqual(in_order([], ahead), [])
        self.assertEqual(in_order([(1, 2, 3)], ahead), [(1, 2, 3)])

    def test_a_long_list(self):
        keys = [k * k * 7919 % 1009 for k in range(20000)]
        some = list(zip(keys, range(len(keys))))
        calls = []

        def first(p, q):
            calls.append(1)
            return p[0] < q[0]

        self.assertEqual(in_order(some, first), sorted(some))
        self.assertLess(len(calls), 20 * len(some))
        rising = list(range(20000))
        self.assertEqual(in_order(rising, lambda p, q: p < q), rising)
        self.assertEqual(in_order(rising, lambda p, q: p > q), rising[::-1])

    def test_the_list_handed_in_is_not_changed(self):
        some = [[3], [1], [2]]
        kept = list(some)
        told = in_order(some, lambda p, q: p[0] < q[0])
        self.assertEqual(some, [[3], [1], [2]])
        self.assertTrue(all(one is other for one, other in zip(some, kept)))
        self.assertIs(told[0], kept[1])

    def test_the_list_told_is_a_new_one(self):
        for some in ([], [1], [1, 2], [2, 1]):
            before = list(some)
            told = in_order(some, lambda p, q: p < q)
            again = in_order(some, lambda p, q: p < q)
            self.assertIs(type(told), list)
            self.assertIsNot(told, some)
            self.assertIsNot(told, again)
            told.append(9)
            self.assertEqual(some, before)
            self.assertEqual(again, sorted(before))
            self.assertEqual(in_order(some, lambda p, q: p < q), sorted(before))


if __name__ == "__main__":
    unittest.main()
