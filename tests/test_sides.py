"""Sides: which spots are on them, and what two of them have in common."""

import itertools
import unittest

from by_fractions import common_by_shares, is_on
from sheetlay.sides import along, common, on_side
from sheetlay.spots import spot

GREAT = 10 ** 30
GRID = [spot(x, y) for x in range(3) for y in range(3)]
ODD_SPOTS = [spot(0, 0), spot(1, 1), spot(2, 2), spot(1, 2, 3), spot(2, 1, 2), spot(-1, 3, 2), spot(5, 5, 3), spot(0, 7, 3)]


class Common(unittest.TestCase):
    def assert_common(self, one, other, expected):
        # In whichever order and direction the sides are told.
        for left in (one, one[::-1]):
            for right in (other, other[::-1]):
                self.assertEqual(common(left, right), expected)
                self.assertEqual(common(right, left), expected)

    def test_crossing(self):
        self.assert_common(((0, 0, 1), (2, 2, 1)), ((0, 2, 1), (2, 0, 1)), ("spot", (1, 1, 1)))
        self.assert_common(((0, 0, 1), (2, 1, 1)), ((0, 1, 1), (1, 0, 1)), ("spot", (2, 1, 3)))
        self.assert_common(((-1, 0, 1), (1, 0, 1)), ((0, -1, 1), (0, 1, 1)), ("spot", (0, 0, 1)))

    def test_touching(self):
        self.assert_common(((0, 0, 1), (2, 0, 1)), ((1, 0, 1), (1, 5, 1)), ("spot", (1, 0, 1)))
        self.assert_common(((0, 0, 1), (3, 1, 1)), ((3, 1, 2), (0, 7, 1)), ("spot", (3, 1, 2)))

    def test_an_end_of_both(self):
        self.assert_common(((0, 0, 1), (2, 0, 1)), ((2, 0, 1), (3, 5, 1)), ("spot", (2, 0, 1)))
        self.assert_common(((1, 1, 3), (2, 0, 1)), ((1, 1, 3), (0, 5, 1)), ("spot", (1, 1, 3)))

    def test_nothing(self):
        self.assert_common(((0, 0, 1), (2, 0, 1)), ((0, 1, 1), (2, 1, 1)), None)
        self.assert_common(((0, 0, 1), (2, 0, 1)), ((3, -1, 1), (3, 1, 1)), None)
        self.assert_common(((0, 0, 1), (2, 0, 1)), ((3, 0, 1), (3, 1, 1)), None)
        self.assert_common(((0, 0, 1), (1, 1, 1)), ((3, 0, 1), (0, 3, 1)), None)
        self.assert_common(((0, 0, 1), (2, 2, 1)), ((1, 0, 1), (3, 2, 1)), None)

    def test_nothing_by_a_hair(self):
        hair = spot(GREAT // 2, 1, GREAT)
        one = ((0, 0, 1), (1, 0, 1))
        self.assert_common(one, (hair, (0, 1, 1)), None)
        self.assert_common(one, (spot(GREAT // 2, -1, GREAT), (1, 1, 2)), ("spot", (1, 0, 2)))

    def test_a_stretch(self):
        self.assert_common(((0, 0, 1), (2, 0, 1)), ((1, 0, 1), (3, 0, 1)), ("stretch", (1, 0, 1), (2, 0, 1)))
        self.assert_common(((0, 0, 1), (0, 2, 1)), ((0, 1, 1), (0, 3, 1)), ("stretch", (0, 1, 1), (0, 2, 1)))
        self.assert_common(((0, 3, 1), (3, 0, 1)), ((1, 2, 1), (5, -2, 1)), ("stretch", (1, 2, 1), (3, 0, 1)))
        self.assert_common(((0, 0, 1), (1, 1, 1)), ((1, 1, 3), (7, 7, 2)), ("stretch", (1, 1, 3), (1, 1, 1)))

    def test_in_one_row_apart(self):
        self.assert_common(((0, 0, 1), (1, 0, 1)), ((2, 0, 1), (3, 0, 1)), None)
        self.assert_common(((0, 0, 1), (0, 1, 1)), ((0, 3, 2), (0, 3, 1)), None)
        self.assert_common(((0, 0, 1), (1, 2, 1)), ((2, 4, 1), (3, 6, 1)), None)

    def test_in_one_row_meeting_in_one_end(self):
        self.assert_common(((0, 0, 1), (1, 0, 1)), ((1, 0, 1), (3, 0, 1)), ("spot", (1, 0, 1)))
        self.assert_common(((0, 0, 1), (0, 1, 2)), ((0, 1, 2), (0, 3, 1)), ("spot", (0, 1, 2)))
        self.assert_common(((0, 3, 1), (1, 2, 1)), ((1, 2, 1), (3, 0, 1)), ("spot", (1, 2, 1)))

    def test_one_in_the_other(self):
        self.assert_common(((0, 0, 1), (3, 3, 1)), ((1, 1, 1), (2, 2, 1)), ("stretch", (1, 1, 1), (2, 2, 1)))
        self.assert_common(((0, 0, 1), (3, 3, 1)), ((0, 0, 1), (2, 2, 1)), ("stretch", (0, 0, 1), (2, 2, 1)))
        self.assert_common(((0, 0, 1), (0, 3, 1)), ((0, 1, 2), (0, 3, 1)), ("stretch", (0, 1, 2), (0, 3, 1)))

    def test_the_same(self):
        self.assert_common(((2, 1, 1), (0, 3, 1)), ((2, 1, 1), (0, 3, 1)), ("stretch", (0, 3, 1), (2, 1, 1)))
        self.assert_common(((1, 0, 2), (1, -3, 2)), ((1, 0, 2), (1, -3, 2)), ("stretch", (1, -3, 2), (1, 0, 2)))

    def test_every_pair_of_sides_on_a_grid(self):
        self.assert_every_pair(GRID)

    def test_every_pair_of_sides_at_odd_places(self):
        self.assert_every_pair(ODD_SPOTS)

    def assert_every_pair(self, some):
        sides = list(itertools.permutations(some, 2))
        for one in sides:
            for other in sides:
                told = common(one, other)
                if told != common_by_shares(one, other):
                    self.fail((one, other, told, common_by_shares(one, other)))

    def test_great_numbers(self):
        one = (spot(-GREAT, -GREAT), spot(GREAT, GREAT - 1))
        other = (spot(-GREAT, GREAT, GREAT - 1), spot(GREAT, -GREAT, GREAT - 3))
        self.assert_common(one, other, common_by_shares(one, other))
        self.assertEqual(common(one, other)[0], "spot")
        beyond = (spot(GREAT, -GREAT, GREAT - 3), spot(GREAT, -1))
        self.assert_common(one, beyond, None)

    def test_what_was_told_is_handed_in_again(self):
        one = (spot(GREAT, 1, GREAT - 1), spot(-GREAT, -7, GREAT - 3))
        other = (spot(1, GREAT, GREAT - 7), spot(-1, -GREAT, 11))
        kind, met = common(one, other)
        self.assertEqual(kind, "spot")
        self.assertGreater(met[2], GREAT)
        self.assertIs(on_side(met, one), True)
        self.assertIs(on_side(met, other), True)
        self.assert_common((one[0], met), (met, one[1]), ("spot", met))
        self.assert_common((one[0], met), one, ("stretch", met, one[0]))
        self.assertEqual(along(one, [one[1], met, one[0], met]), [one[0], met, one[1]])


class OnSide(unittest.TestCase):
    side = ((0, 0, 1), (4, 2, 1))

    def assert_on(self, p, side, expected):
        self.assertIs(on_side(p, side), expected)
        self.assertIs(on_side(p, side[::-1]), expected)

    def test_the_ends(self):
        self.assert_on((0, 0, 1), self.side, True)
        self.assert_on((4, 2, 1), self.side, True)

    def test_amid(self):
        self.assert_on((2, 1, 1), self.side, True)
        self.assert_on((2, 1, 3), self.side, True)
        self.assert_on((0, 1, 3), ((0, 0, 1), (0, 1, 1)), True)
        self.assert_on((1, 0, 3), ((0, 0, 1), (1, 0, 1)), True)

    def test_beside(self):
        self.assert_on((2, 2, 1), self.side, False)
        self.assert_on((2, 0, 1), self.side, False)
        self.assert_on(spot(2 * GREAT // 4, GREAT // 4 + 1, GREAT // 4), self.side, False)

    def test_in_the_row_beyond_an_end(self):
        self.assert_on((6, 3, 1), self.side, False)
        self.assert_on((-2, -1, 1), self.side, False)
        self.assert_on((0, 2, 1), ((0, 0, 1), (0, 1, 1)), False)
        self.assert_on((0, -1, 3), ((0, 0, 1), (0, 1, 1)), False)
        self.assert_on((4, 0, 3), ((0, 0, 1), (1, 0, 1)), False)

    def test_every_spot_and_side(self):
        for some in (GRID, ODD_SPOTS):
            for side in itertools.permutations(some, 2):
                for p in some:
                    self.assertIs(on_side(p, side), is_on(p, side))


class Along(unittest.TestCase):
    side = ((0, 0, 1), (4, 4, 1))

    def test_in_order_from_the_first_end_to_the_last(self):
        some = [(3, 3, 1), (4, 4, 1), (1, 1, 2), (0, 0, 1), (1, 1, 1)]
        expected = [(0, 0, 1), (1, 1, 2), (1, 1, 1), (3, 3, 1), (4, 4, 1)]
        self.assertEqual(along(self.side, some), expected)
        self.assertEqual(along(self.side[::-1], some), expected[::-1])

    def test_straight_up_and_down(self):
        side = ((1, 0, 1), (1, 3, 1))
        some = [(1, 2, 1), (1, 3, 1), (2, 1, 2), (1, 1, 1), (1, 4, 1)]
        self.assertEqual(along(side, some), [(2, 1, 2), (1, 1, 1), (1, 2, 1), (1, 3, 1)])
        self.assertEqual(along(side[::-1], some), [(1, 3, 1), (1, 2, 1), (1, 1, 1), (2, 1, 2)])

    def test_falling_to_the_right(self):
        side = ((0, 3, 1), (3, 0, 1))
        some = [(2, 1, 1), (1, 2, 1), (3, 3, 2)]
        self.assertEqual(along(side, some), [(1, 2, 1), (3, 3, 2), (2, 1, 1)])
        self.assertEqual(along(side[::-1], some), [(2, 1, 1), (3, 3, 2), (1, 2, 1)])

    def test_spots_that_stand_twice_come_once(self):
        some = [(2, 2, 1), (0, 0, 1), (2, 2, 1), (0, 0, 1), (2, 2, 1)]
        self.assertEqual(along(self.side, some), [(0, 0, 1), (2, 2, 1)])
        self.assertEqual(along(self.side[::-1], some), [(2, 2, 1), (0, 0, 1)])

    def test_spots_beside_and_beyond_are_left_out(self):
        some = [(1, 2, 1), (5, 5, 1), (2, 2, 1), (-1, -1, 1), (1, 0, 1)]
        self.assertEqual(along(self.side, some), [(2, 2, 1)])
        self.assertEqual(along(self.side, [(1, 2, 1), (5, 5, 1)]), [])

    def test_the_ends_come_only_where_the_list_has_them(self):
        self.assertEqual(along(self.side, [(1, 1, 1)]), [(1, 1, 1)])

    def test_an_empty_list(self):
        self.assertEqual(along(self.side, []), [])
        self.assertEqual(along(self.side[::-1], []), [])

    def test_the_list_handed_in_is_not_changed_and_the_one_told_is_new(self):
        for before in ([], [(1, 1, 1)], [(2, 2, 1), (1, 1, 1), (2, 2, 1), (9, 0, 1)]):
            for side in (self.side, self.side[::-1]):
                some = list(before)
                told = along(side, some)
                expected = list(told)
                self.assertIs(type(told), list)
                self.assertIsNot(told, some)
                told.append((3, 3, 1))
                self.assertEqual(some, before)
                self.assertEqual(along(side, some), expected)


if __name__ == "__main__":
    unittest.main()
