"""A spot within a loop of a web's face."""

import itertools
import math
import unittest

from by_fractions import area_by_places, rotations, where_by_places
from examples import box, chance_webs, loop
from sheetlay.loops import where
from sheetlay.spots import spot
from sheetlay.webs import loops_of
from sheetlay.within import spot_in

GREAT = 10 ** 30


class SpotIn(unittest.TestCase):
    def assert_within(self, spots):
        # From any of its spots on.
        for told in rotations(spots):
            p = spot_in(told)
            self.assertEqual((type(p), [type(part) for part in p]), (tuple, [int, int, int]))
            self.assertGreaterEqual(p[2], 1)
            self.assertEqual(math.gcd(*p), 1)
            self.assertEqual(where_by_places(told, p), 1, (told, p))
            self.assertEqual(where(told, p), 1)

    def test_three_spots(self):
        some = [spot(x, y, 2) for x in (0, 1, 4) for y in (-1, 0, 2)]
        for spots in itertools.permutations(some, 3):
            if area_by_places(spots) > 0:
                self.assert_within(spots)

    def test_a_box(self):
        self.assert_within(box(0, 0, 1, 1))
        self.assert_within(box(-7, -5, -3, -4))

    def test_reflex_corners(self):
        self.assert_within(loop((0, 0), (4, 0), (4, 4), (2, 1), (0, 4)))
        self.assert_within(loop((0, 0), (2, 3), (4, 0), (4, 4), (0, 4)))
        self.assert_within(loop((0, 0), (4, 0), (1, 2), (4, 4), (0, 4)))
        self.assert_within(loop((0, 0), (4, 0), (4, 4), (0, 4), (3, 2)))
        # Two teeth downward, the left one shorter by a hair than the right.
        self.assert_within(loop((0, 1, GREAT), (1, 2), (2, 2), (3, 0), (3, 9), (0, 9)))

    def test_a_star_and_a_comb(self):
        self.assert_within(loop((0, 3), (-1, 1), (-3, 1), (-1, 0), (-2, -3), (0, -1), (2, -3), (1, 0), (3, 1), (1, 1)))
        self.assert_within(loop((0, 0), (1, 5), (2, 0), (3, 5), (4, 0), (5, 5), (6, 0), (6, 6), (0, 6)))
        self.assert_within(loop((0, 0), (6, 0), (6, 6), (5, 1), (4, 6), (3, 1), (2, 6), (1, 1), (0, 6)))

    def test_round_a_corner_and_back(self):
        self.assert_within(loop(
            (0, 0), (9, 0), (9, 9), (2, 9), (2, 3), (6, 3), (6, 6), (5, 6), (5, 4), (3, 4), (3, 8), (8, 8), (8, 1), (0, 1),
        ))

    def test_spots_in_one_row(self):
        self.assert_within(loop((0, 0), (1, 0), (2, 0), (3, 0), (3, 1), (3, 2), (2, 2), (1, 2), (0, 2), (0, 1)))
        self.assert_within(loop((0, 0), (1, 0), (2, 0), (2, 2), (1, 1)))
        self.assert_within(loop((0, 0), (1, 1, 2), (1, 1), (0, 1)))

    def test_a_spot_that_stands_twice(self):
        self.assert_within(loop((0, 0), (1, 3), (3, 1), (0, 0), (6, 0), (6, 6), (5, 4), (4, 5), (6, 6), (0, 6)))
        self.assert_within(loop((0, 0), (6, 0), (6, 6), (0, 6), (3, 3), (1, 3), (0, 6)))
        # A block that stands on the lowest corner, and a block on a block.
        self.assert_within(loop((3, 0), (6, 6), (0, 6), (3, 0), (2, 3), (4, 3)))
        self.assert_within(loop((0, 0), (3, 3), (5, 6), (6, 5), (3, 3), (3, 1), (0, 0), (9, 0), (9, 9), (0, 9)))

    def test_faces_of_webs_by_chance(self):
        for web in chance_webs(5, 60):
            for spots in loops_of(web)[0]:
                self.assert_within(spots)

    def test_a_hair_wide(self):
        self.assert_within(loop((0, 0), (GREAT, GREAT - 1), (GREAT - 1, GREAT - 1)))
        self.assert_within(loop((0, 0), (GREAT, 1), (GREAT, 2)))
        self.assert_within(loop((0, 0), (1, 0, GREAT), (0, 1, GREAT - 1)))
        self.assert_within(loop((-GREAT, -GREAT), (GREAT, 1 - GREAT), (GREAT, GREAT, 7), (1 - GREAT, GREAT)))

    def test_what_was_told_is_handed_in_again(self):
        spots = loop((0, 0), (GREAT, GREAT - 1, GREAT - 2), (1, GREAT, GREAT - 7))
        for k in range(4):
            p = spot_in(spots)
            self.assert_within(spots)
            spots = spots[:2] + (p,)


if __name__ == "__main__":
    unittest.main()
