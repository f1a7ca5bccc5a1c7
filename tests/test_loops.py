"""Loops: sides, areas, which are simple, turned ones, inside or not."""

import itertools
import random
import unittest

from by_fractions import (
    area_by_places, common_by_shares, first_rotation, fraction, goings_of, place, rotations, rounds,
    where_by_places,
)
from sheetlay.loops import area, is_simple, loop_ahead, sides_of, turned, where
from sheetlay.spots import spot

GREAT = 10 ** 30
GRID = [spot(x, y) for x in range(3) for y in range(3)]
ODD_SPOTS = [spot(0, 0), spot(1, 1), spot(2, 2), spot(1, 2, 3), spot(2, 1, 2), spot(-1, 3, 2)]


def loop(*places):
    return tuple(spot(*p) for p in places)


SQUARE = loop((0, 0), (2, 0), (2, 2), (0, 2))
BOW = loop((0, 0), (2, 2), (2, 0), (0, 2))


def is_loop(spots):
    return len(spots) >= 3 and all(a != b for a, b in goings_of(spots))


def odd_loops(count, most):
    # Loops that cross, touch and go over themselves in every manner.
    chance = random.Random(count)
    some = GRID + ODD_SPOTS
    found = []
    while len(found) < count:
        spots = tuple(chance.choice(some) for k in range(chance.randint(3, most)))
        if is_loop(spots):
            found.append(spots)
    return found


class Sides(unittest.TestCase):
    def test_from_the_first_spot_on_and_back_to_it(self):
        a, b, c, d = SQUARE
        self.assertEqual(sides_of(SQUARE), [(a, b), (b, c), (c, d), (d, a)])
        self.assertEqual(sides_of((c, a, b)), [(c, a), (a, b), (b, c)])

    def test_spots_that_stand_twice(self):
        a, b, c, d = BOW
        self.assertEqual(sides_of((a, b, a, c, d)), [(a, b), (b, a), (a, c), (c, d), (d, a)])

    def test_a_new_list_of_tuples_each_time(self):
        told = sides_of(SQUARE)
        self.assertIs(type(told), list)
        self.assertEqual({type(side) for side in told}, {tuple})
        told.pop()
        self.assertEqual(len(sides_of(SQUARE)), 4)


class Areas(unittest.TestCase):
    def test_round_to_the_left_and_to_the_right(self):
        self.assertEqual(area(SQUARE), (4, 1))
        self.assertEqual(area(SQUARE[::-1]), (-4, 1))
        self.assertEqual(area(loop((0, 0), (1, 0), (0, 1))), (1, 2))
        self.assertEqual(area(loop((0, 0), (0, 1), (1, 0))), (-1, 2))

    def test_across_itself(self):
        self.assertEqual(area(BOW), (0, 1))
        # A great part to the left and a small one to the right.
        self.assertEqual(area(loop((0, 0), (6, 0), (6, 6), (4, 6), (4, -2), (3, -2), (3, 6), (0, 6))), (28, 1))

    def test_twice_round(self):
        self.assertEqual(area(SQUARE + SQUARE), (8, 1))

    def test_in_one_row(self):
        self.assertEqual(area(loop((0, 0), (1, 1), (2, 2))), (0, 1))

    def test_broken_places(self):
        self.assertEqual(area(loop((0, 0), (1, 0, 2), (0, 1, 3))), (1, 12))
        self.assertEqual(area(loop((1, 1, 7), (8, 1, 7), (8, 8, 7), (1, 8, 7))), (1, 1))
        self.assertEqual(area(loop((-1, -1, 2), (1, -3, 5), (2, 7, 3))), (21, 20))

    def test_the_same_from_any_spot_on_and_its_opposite_turned_about(self):
        for spots in odd_loops(200, 7):
            expected = area_by_places(spots)
            for told in rotations(spots):
                self.assertEqual(fraction(area(told)), expected)
            self.assertEqual(fraction(area(spots[::-1])), -expected)

    def test_a_number_in_lowest_form(self):
        for spots in odd_loops(200, 7):
            told = area(spots)
            self.assertEqual((type(told), [type(part) for part in told]), (tuple, [int, int]))
            self.assertEqual(told, area_by_places(spots).as_integer_ratio())

    def test_great_numbers(self):
        spots = loop((-GREAT, -GREAT), (GREAT, 1 - GREAT, GREAT - 1), (GREAT - 1, GREAT), (7, GREAT, 3))
        self.assertEqual(area(spots), area_by_places(spots).as_integer_ratio())
        hair = loop((0, 0), (GREAT, GREAT - 1), (GREAT - 1, GREAT - 2))
        self.assertEqual(area(hair), (-1, 2))


class Simple(unittest.TestCase):
    def assert_simple(self, spots, expected):
        for told in rotations(spots) or [spots]:
            self.assertIs(is_simple(told), expected, told)
            self.assertIs(is_simple(told[::-1]), expected, told)

    def test_simple_ones(self):
        self.assert_simple(SQUARE, True)
        self.assert_simple(loop((0, 0), (5, 1), (2, 3)), True)
        self.assert_simple(loop((0, 0), (4, 0), (4, 4), (2, 1), (0, 4)), True)

    def test_straight_spots_are_no_hindrance(self):
        self.assert_simple(loop((0, 0), (1, 0), (2, 0), (2, 2)), True)
        self.assert_simple(loop((0, 0), (1, 0), (1, 1, 3), (1, 3, 9), (0, 1)), True)

    def test_fewer_than_three_spots(self):
        a, b = SQUARE[:2]
        for spots in ((), (a,), (a, b), (a, a)):
            self.assert_simple(spots, False)

    def test_two_alike_side_by_side(self):
        a, b, c, d = SQUARE
        for spots in ((a, a, b, c), (a, b, b, c), (a, b, c, c), (a, b, c, a), (a, b, a), (a, a, a), (a, a, b, b)):
            self.assert_simple(spots, False)

    def test_alike_spots_apart(self):
        # Two triangles that hang together at one spot.
        self.assert_simple(loop((0, 0), (1, 1), (2, 0), (2, 2), (1, 1), (0, 2)), False)
        self.assert_simple(SQUARE + SQUARE, False)

    def test_sides_that_cross(self):
        self.assert_simple(BOW, False)
        self.assert_simple(loop((0, 0), (6, 0), (6, 6), (4, 6), (4, -2), (3, -2), (3, 6), (0, 6)), False)

    def test_a_corner_on_another_side(self):
        self.assert_simple(loop((0, 0), (4, 0), (4, 4), (2, 0), (0, 4)), False)
        self.assert_simple(loop((0, 0), (3, 0), (3, 3), (1, 1, 1), (0, 3), (3, 4), (-3, 4)), True)
        self.assert_simple(loop((0, 0), (3, 0), (3, 3), (0, 1), (0, 4), (3, 5), (0, 5)), False)

    def test_sides_upon_one_another(self):
        self.assert_simple(loop((0, 0), (4, 0), (4, 2), (3, 0), (1, 0), (0, 2)), False)
        self.assert_simple(loop((0, 0), (4, 0), (2, 0), (2, 3)), False)
        self.assert_simple(loop((0, 0), (2, 0), (4, 0), (1, 0), (1, 5)), False)

    def test_three_in_one_row(self):
        self.assert_simple(loop((0, 0), (1, 1), (2, 2)), False)
        self.assert_simple(loop((0, 0), (3, 3), (1, 1)), False)

    def test_by_a_hair(self):
        for k, expected in ((1, True), (0, False), (-1, False)):
            self.assert_simple(loop((0, 0), (4, 0), (4, 4), (2 * GREAT, k, GREAT), (0, 4)), expected)

    def test_every_short_row_of_spots(self):
        sides = list(itertools.permutations(GRID[:6] + ODD_SPOTS[3:5], 2))
        met = {(one, other): common_by_shares(one, other) for one in sides for other in sides}
        self.assert_all_rows(GRID[:6] + ODD_SPOTS[3:5], met, (1, 2, 3, 4))

    def test_every_row_of_five_unlike_spots(self):
        some = GRID[:7]
        sides = list(itertools.permutations(some, 2))
        met = {(one, other): common_by_shares(one, other) for one in sides for other in sides}
        for spots in itertools.permutations(some, 5):
            self.assertIs(is_simple(spots), self.by_the_words(spots, met), spots)

    def assert_all_rows(self, some, met, lengths):
        for n in lengths:
            for spots in itertools.product(some, repeat=n):
                self.assertIs(is_simple(spots), self.by_the_words(spots, met), spots)

    def by_the_words(self, spots, met):
        if not is_loop(spots) or len(set(spots)) < len(spots):
            return False
        sides = goings_of(spots)
        for k, j in itertools.combinations(range(len(sides)), 2):
            between = None
            if j == k + 1:
                between = ("spot", sides[j][0])
            if (k, j) == (0, len(sides) - 1):
                between = ("spot", sides[0][0])
            if met[sides[k], sides[j]] != between:
                return False
        return True


class Turned(unittest.TestCase):
    def test_begins_at_the_spot_that_is_ahead(self):
        a, b, c, d = SQUARE
        for told in rotations(SQUARE):
            self.assertEqual(turned(told), (a, b, c, d))
        for told in rotations(SQUARE[::-1]):
            self.assertEqual(turned(told), (a, d, c, b))

    def test_places_are_compared_not_their_tuples(self):
        spots = loop((1, 0), (1, 1, 2), (1, 5, 3))
        for told in rotations(spots):
            self.assertEqual(turned(told), spots[2:] + spots[:2])

    def test_the_first_spot_more_than_once(self):
        o, a, b, c, d = loop((0, 0), (1, 0), (2, 0), (3, 0), (4, 0))
        for expected in (
            (o, a, c, o, b, c), (o, a, c, o, a, d), (o, a, b, c, o, a, c), (o, b, o, c, o, d), (o, a, o, b, o, a, o, c),
            (o, a, b, o, a, b, o, a, c), (o, a, b, c, o, a, b, c, d),
        ):
            for told in rotations(expected):
                self.assertEqual(turned(told), expected)

    def test_a_loop_that_goes_over_itself_again(self):
        for told in rotations(SQUARE + SQUARE):
            self.assertEqual(turned(told), SQUARE + SQUARE)

    def test_every_rotation_of_odd_loops(self):
        for spots in odd_loops(300, 9):
            expected = first_rotation(spots)
            for told in rotations(spots):
                self.assertEqual(turned(told), expected)

    def test_loops_of_three_spots_again_and_again(self):
        for spots in itertools.product(ODD_SPOTS[:3], repeat=6):
            if is_loop(spots):
                self.assertEqual(turned(spots), first_rotation(spots))

    def test_a_tuple(self):
        self.assertIs(type(turned(SQUARE)), tuple)
        self.assertIs(type(turned(SQUARE[1:] + SQUARE[:1])), tuple)


class Where(unittest.TestCase):
    def assert_where(self, spots, p, expected):
        for told in rotations(spots):
            self.assertEqual(where(told, p), expected, (told, p))
            self.assertEqual(where(told[::-1], p), expected, (told, p))

    def test_inside_to_the_left_and_to_the_right(self):
        self.assert_where(SQUARE, spot(1, 1), 1)
        self.assert_where(SQUARE, spot(1, 1, GREAT), 1)
        self.assert_where(SQUARE, spot(2 * GREAT - 1, 1, GREAT), 1)

    def test_outside(self):
        for p in (spot(3, 1), spot(-1, 1), spot(1, 3), spot(1, -1), spot(-1, -1, GREAT), spot(2 * GREAT + 1, 1, GREAT)):
            self.assert_where(SQUARE, p, -1)

    def test_on_a_side_and_at_a_corner(self):
        for p in (spot(1, 0), spot(2, 1), spot(1, 2), spot(0, 1, 3)) + SQUARE:
            self.assert_where(SQUARE, p, 0)

    def test_level_with_corners(self):
        star = loop((0, 0), (3, -3), (6, 0), (3, 3))
        for x, expected in ((-1, -1), (1, 1), (5, 1), (7, -1)):
            self.assert_where(star, spot(x, 0), expected)
        for y in (3, -3):
            for x in (2, 4):
                self.assert_where(star, spot(x, y), -1)
        comb = loop((0, 0), (6, 0), (6, 2), (5, 1), (4, 2), (3, 1), (2, 2), (1, 1), (0, 2))
        for x, expected in ((-1, -1), (1, 1), (4, 1), (9, 1), (11, 1), (13, -1)):
            self.assert_where(comb, spot(x, 2, 2), 0 if x in (2, 6, 10) else expected)
        for x in (-1, 1, 3, 5, 7):
            self.assert_where(comb, spot(x, 2), -1)

    def test_level_with_a_level_side(self):
        stairs = loop((0, 0), (4, 0), (4, 2), (2, 2), (2, 1), (0, 1))
        for p, expected in (((-1, 1), -1), ((1, 1), 0), ((3, 1), 1), ((5, 1), -1), ((1, 2), -1), ((5, 2), -1)):
            self.assert_where(stairs, spot(*p), expected)

    def test_twice_round_a_spot(self):
        twofold = loop((0, 0), (9, 0), (9, 9), (2, 9), (2, 3), (6, 3), (6, 6), (0, 6))
        self.assertEqual(rounds(twofold, spot(4, 4)), 2)
        self.assert_where(twofold, spot(4, 4), 1)
        self.assert_where(SQUARE + SQUARE, spot(1, 1), 1)

    def test_round_to_the_left_and_back_to_the_right(self):
        self.assert_where(SQUARE + SQUARE[:1] + SQUARE[:0:-1], spot(1, 1), -1)
        self.assert_where(SQUARE + loop((0, 0), (0, 1), (1, 1), (1, 0)), spot(1, 1, 2), -1)
        self.assert_where(SQUARE + loop((0, 0), (0, 1), (1, 1), (1, 0)), spot(3, 3, 2), 1)

    def test_both_wings_of_a_bow(self):
        for p, expected in (((1, 2, 2), 1), ((3, 2, 2), 1), ((1, 1), 0), ((2, 3, 2), -1), ((2, 1, 2), -1)):
            self.assert_where(BOW, spot(*p), expected)

    def test_odd_loops_all_about(self):
        some = [spot(x, y, 4) for x in range(-1, 10) for y in range(-1, 10)]
        for spots in odd_loops(120, 8):
            for p in some:
                self.assertEqual(where(spots, p), where_by_places(spots, p), (spots, p))

    def test_great_numbers(self):
        spots = loop((-GREAT, -GREAT), (GREAT, 1 - GREAT), (GREAT, GREAT), (1 - GREAT, GREAT))
        for p in (spot(0, 0), spot(-GREAT, 0), spot(1, 1 - GREAT), spot(1, -GREAT), spot(-GREAT, GREAT), spots[1]):
            self.assertEqual(where(spots, p), where_by_places(spots, p))
        self.assertEqual(where(spots, spot(0, 1 - 2 * GREAT, 2)), 0)
        self.assertEqual(where(spots, spot(0, 2 - 2 * GREAT, 2)), 1)
        self.assertEqual(where(spots, spot(0, -2 * GREAT, 2)), -1)


class LoopAhead(unittest.TestCase):
    def test_spot_by_spot(self):
        a, b, c, d = SQUARE
        self.assertIs(loop_ahead((a, b, c), (b, c, d)), True)
        self.assertIs(loop_ahead((b, c, d), (a, b, c)), False)
        self.assertIs(loop_ahead((a, d, b), (a, b, c)), True)
        self.assertIs(loop_ahead((a, b, c), (a, d, b)), False)
        self.assertIs(loop_ahead((a, b, c), (a, b, d)), False)
        self.assertIs(loop_ahead((a, b, d), (a, b, c)), True)

    def test_of_unlike_length(self):
        a, b, c, d = SQUARE
        self.assertIs(loop_ahead((a, b, c, d), (a, c, b)), True)
        self.assertIs(loop_ahead((a, c, b), (a, b, c, d)), False)
        self.assertIs(loop_ahead((a, d, c), (a, b, c, d)), True)

    def test_a_loop_and_itself(self):
        self.assertIs(loop_ahead(SQUARE, SQUARE), False)

    def test_places_are_compared_not_their_tuples(self):
        one = loop((0, 0), (1, 1, 2), (1, 0))
        other = loop((0, 0), (1, 1, 3), (1, 0))
        self.assertIs(loop_ahead(one, other), False)
        self.assertIs(loop_ahead(other, one), True)

    def test_every_pair(self):
        some = [turned(spots) for spots in odd_loops(60, 6)]
        for one in some:
            for other in some:
                if one[:len(other)] != other and other[:len(one)] != one:
                    expected = [place(p) for p in one] < [place(p) for p in other]
                    self.assertIs(loop_ahead(one, other), expected)


if __name__ == "__main__":
    unittest.main()
