"""Webs: spots round about a spot, and the loops of a web's faces."""

import itertools
import random
import unittest

from by_fractions import area_by_places, direction, goings_of, loops_by_directions, places
from examples import box, chance_webs, loop
from sheetlay.loops import sides_of
from sheetlay.spots import spot
from sheetlay.webs import loops_of, round_about

GREAT = 10 ** 30


class RoundAbout(unittest.TestCase):
    def assert_round(self, b, expected):
        # In whichever order they are told; straight right comes first.
        chance = random.Random(len(expected))
        for k in range(20):
            some = list(expected)
            chance.shuffle(some)
            self.assertEqual(round_about(b, some), expected)

    def test_straight_right_first_then_to_the_left(self):
        self.assert_round(spot(0, 0), list(loop(
            (1, 0), (2, 1), (1, 1), (1, 2), (0, 1), (-1, 2), (-1, 1), (-2, 1),
            (-1, 0), (-2, -1), (-1, -1), (-1, -2), (0, -1), (1, -2), (1, -1), (2, -1),
        )))

    def test_each_order_of_the_four_straight_ones(self):
        expected = list(loop((1, 0), (0, 1), (-1, 0), (0, -1)))
        for some in itertools.permutations(expected):
            self.assertEqual(round_about(spot(0, 0), list(some)), expected)

    def test_however_far_they_are(self):
        self.assert_round(spot(0, 0), list(loop((9, 0), (1, 1, 7), (0, 50), (-1, 1, 9), (-30, -1), (1, -40, 50))))

    def test_about_a_spot_elsewhere_and_at_broken_places(self):
        self.assert_round(spot(5, 7, 2), list(loop(
            (7, 7, 2), (4, 4), (5, 9, 2), (1, 8), (1, 7, 2), (2, 3), (5, -1, 2), (4, 3),
        )))

    def test_none_straight_right(self):
        self.assert_round(spot(1, 1), list(loop((0, 2), (0, 1), (2, 0))))
        self.assert_round(spot(1, 1), list(loop((0, 0), (2, 0))))

    def test_one_and_none(self):
        self.assertEqual(round_about(spot(0, 0), [spot(-1, -1)]), [spot(-1, -1)])
        self.assertEqual(round_about(spot(0, 0), []), [])

    def test_a_hair_from_one_another(self):
        self.assert_round(spot(0, 0), [
            spot(GREAT, 0), spot(GREAT, 1), spot(GREAT, GREAT - 1), spot(1, 1), spot(GREAT - 1, GREAT), spot(1, GREAT),
            spot(0, 1), spot(-1, GREAT), spot(-GREAT, 1), spot(-1, 0), spot(-GREAT, -1), spot(-1, 1 - GREAT, 1),
            spot(0, -GREAT), spot(1, -GREAT), spot(GREAT, -1),
        ])
        self.assert_round(spot(0, 0), [spot(GREAT, GREAT - 1), spot(GREAT - 1, GREAT - 2 + 1), spot(GREAT - 1, GREAT)])

    def test_a_hair_from_straight_right_at_broken_places(self):
        b = spot(1, 1, GREAT - 1)
        some = [spot(1, 1, GREAT - 2), spot(1, 1, GREAT), spot(5 * (GREAT - 1), 1, GREAT - 1), spot(0, 1, GREAT - 1)]
        self.assertEqual(round_about(b, some), sorted(some, key=lambda p: direction(b, p)))

    def test_all_about_by_directions(self):
        chance = random.Random(12)
        for k in range(300):
            b = spot(chance.randint(-3, 3), chance.randint(-3, 3), chance.randint(1, 3))
            found = {}
            for j in range(chance.randint(1, 12)):
                p = spot(chance.randint(-4, 4), chance.randint(-4, 4), chance.randint(1, 3))
                if p != b:
                    found.setdefault(direction(b, p), p)
            self.assertEqual(round_about(b, list(found.values())), [found[way] for way in sorted(found)])

    def test_the_list_handed_in_stays_and_a_new_one_is_told(self):
        for expected in ([], [spot(0, 1)], [spot(0, 1), spot(1, 0)], [spot(1, 0), spot(0, 1)]):
            some = list(expected)
            told = round_about(spot(0, 0), some)
            self.assertIs(type(told), list)
            self.assertIsNot(told, some)
            told.append(spot(9, 9))
            self.assertEqual(some, expected)


class LoopsOf(unittest.TestCase):
    def assert_loops(self, web, loops, outer):
        # In whichever order and direction the sides are told.
        chance = random.Random(len(web))
        for k in range(12):
            told = [side if chance.random() < 0.5 else side[::-1] for side in web]
            chance.shuffle(told)
            before = list(told)
            self.assertEqual(loops_of(told), (loops, outer))
            self.assertEqual(told, before)

    def test_one_loop(self):
        square = box(0, 0, 2, 2)
        self.assert_loops(sides_of(square), [square], square[:1] + square[:0:-1])
        some = loop((0, 0), (3, 1, 2), (5, 7, 3))
        self.assert_loops(sides_of(some), [some], some[:1] + some[:0:-1])

    def test_every_order_and_direction_of_a_triangle(self):
        some = loop((0, 0), (3, 1), (1, 2))
        for sides in itertools.permutations(sides_of(some)):
            for ways in itertools.product((1, -1), repeat=3):
                web = [side[::way] for side, way in zip(sides, ways)]
                self.assertEqual(loops_of(web), ([some], (some[0], some[2], some[1])))

    def test_two_side_by_side(self):
        left, right = box(0, 0, 1, 1), box(1, 0, 2, 1)
        web = sides_of(left) + [side for side in sides_of(right) if side[::-1] not in sides_of(left)]
        self.assert_loops(web, [left, right], loop((0, 0), (0, 1), (1, 1), (2, 1), (2, 0), (1, 0)))

    def test_the_order_is_spot_by_spot(self):
        # Three faces that begin with one spot.
        o, a, b, c, d = loop((0, 0), (3, -3), (4, 0), (3, 3), (2, 1))
        web = [(o, a), (a, b), (b, o), (b, c), (c, o), (o, d), (d, b)]
        self.assert_loops(web, [(o, d, b, c), (o, a, b), (o, b, d)], (o, c, b, a))

    def test_blocks_that_hang_at_one_spot_outside(self):
        web = sides_of(box(0, 0, 1, 1)) + sides_of(box(1, 1, 2, 2))
        outer = loop((0, 0), (0, 1), (1, 1), (1, 2), (2, 2), (2, 1), (1, 1), (1, 0))
        self.assert_loops(web, [box(0, 0, 1, 1), box(1, 1, 2, 2)], outer)

    def test_blocks_that_hang_at_one_spot_within_a_face(self):
        big = box(0, 0, 6, 6)
        block = loop((0, 0), (3, 1), (1, 3))
        far = loop((6, 6), (4, 5), (5, 4))
        web = sides_of(big) + sides_of(block) + sides_of(far)
        rest = loop((0, 0), (1, 3), (3, 1), (0, 0), (6, 0), (6, 6), (5, 4), (4, 5), (6, 6), (0, 6))
        self.assert_loops(
            web, [rest, block, loop((4, 5), (5, 4), (6, 6))], loop((0, 0), (0, 6), (6, 6), (6, 0)),
        )

    def test_two_blocks_that_hang_at_the_same_spot(self):
        big = box(0, 0, 6, 6)
        web = sides_of(big) + sides_of(loop((0, 0), (4, 1), (4, 2))) + sides_of(loop((0, 0), (2, 4), (1, 4)))
        rest = loop((0, 0), (1, 4), (2, 4), (0, 0), (4, 2), (4, 1), (0, 0), (6, 0), (6, 6), (0, 6))
        self.assert_loops(
            web, [rest, loop((0, 0), (2, 4), (1, 4)), loop((0, 0), (4, 1), (4, 2))], loop((0, 0), (0, 6), (6, 6), (6, 0)),
        )

    def test_a_block_on_a_block(self):
        big = box(0, 0, 9, 9)
        first, second = loop((0, 0), (3, 1), (3, 3)), loop((3, 3), (6, 5), (5, 6))
        web = sides_of(big) + sides_of(first) + sides_of(second)
        rest = loop((0, 0), (3, 3), (5, 6), (6, 5), (3, 3), (3, 1), (0, 0), (9, 0), (9, 9), (0, 9))
        self.assert_loops(web, [first, rest, second], loop((0, 0), (0, 9), (9, 9), (9, 0)))

    def test_great_numbers_a_hair_apart(self):
        o, a, b, c = spot(0, 0), spot(GREAT, 1), spot(GREAT, 2), spot(GREAT - 1, 3)
        web = [(o, a), (o, b), (o, c), (a, b), (b, c)]
        self.assert_loops(web, [(o, a, b), (o, b, c)], (o, c, b, a))

    def test_webs_by_chance(self):
        hanging = 0
        for web in chance_webs(3, 60):
            loops, outer = loops_of(web)
            self.assertEqual(sorted(loops + [outer], key=places), loops_by_directions(web))
            self.assertLess(area_by_places(outer), 0)
            self.assertTrue(all(area_by_places(inner) > 0 for inner in loops))
            self.assertEqual(loops, sorted(loops, key=places))
            self.assert_loops(web, loops, outer)
            hanging += any(len(set(inner)) < len(inner) for inner in loops)
        self.assertGreater(hanging, 5)

    def test_each_going_stands_in_one_loop_and_no_area_is_lost(self):
        for web in chance_webs(4, 30):
            loops, outer = loops_of(web)
            goings = [going for told in loops + [outer] for going in goings_of(told)]
            self.assertEqual(len(goings), len(set(goings)))
            self.assertEqual(set(goings), set(web) | {side[::-1] for side in web})
            self.assertEqual(sum(area_by_places(told) for told in loops), -area_by_places(outer))

    def test_what_it_tells_is_new(self):
        web = sides_of(box(0, 0, 1, 1))
        told = loops_of(web)
        self.assertEqual((type(told), type(told[0]), type(told[0][0]), type(told[1])), (tuple, list, tuple, tuple))
        told[0].clear()
        self.assertEqual(loops_of(web)[0], [box(0, 0, 1, 1)])


if __name__ == "__main__":
    unittest.main()
