"""Sides cut to pieces, and the paper of the sides on which they lie."""

import itertools
import random
import unittest

from by_fractions import common_by_shares, corners_by_shares, paper_by_shares, place, places
from examples import touches_in_ends_alone
from sheetlay.pieces import piece_paper, pieces
from sheetlay.spots import spot

GREAT = 10 ** 30


def s(x, y, w=1):
    return spot(x, y, w)


def chance_sides(seed, count, some):
    chance = random.Random(seed)
    return [tuple(chance.sample(some, 2)) for k in range(count)]


GRID = [s(x, y) for x in range(4) for y in range(3)]
ODD_SPOTS = [s(0, 0), s(1, 1), s(2, 2), s(3, 3, 2), s(1, 2, 3), s(2, 1, 2), s(-1, 3, 2), s(5, 5, 3)]


class Pieces(unittest.TestCase):
    def assert_cut(self, sides, expected):
        # Whichever way about each side is told: the pieces and on what they
        # lie are the same.
        for ways in itertools.product((1, -1), repeat=min(len(sides), 4)):
            told = [side[::way] for side, way in zip(sides, ways + (1,) * len(sides))]
            before = list(told)
            self.assertEqual(pieces(told), [(p, q) for p, q, numbers in expected])
            self.assertEqual(piece_paper(told), [numbers for p, q, numbers in expected])
            self.assertEqual(told, before)

    def test_no_sides(self):
        self.assertEqual(pieces([]), [])
        self.assertEqual(piece_paper([]), [])

    def test_one_side(self):
        self.assert_cut([(s(0, 0), s(2, 1))], [(s(0, 0), s(2, 1), [0])])
        self.assert_cut([(s(1, 5), s(1, 1))], [(s(1, 1), s(1, 5), [0])])

    def test_apart(self):
        self.assert_cut(
            [(s(5, 0), s(6, 0)), (s(0, 0), s(1, 0))], [(s(0, 0), s(1, 0), [1]), (s(5, 0), s(6, 0), [0])],
        )

    def test_across(self):
        self.assert_cut([(s(0, 0), s(2, 2)), (s(0, 2), s(2, 0))], [
            (s(0, 0), s(1, 1), [0]), (s(0, 2), s(1, 1), [1]), (s(1, 1), s(2, 0), [1]), (s(1, 1), s(2, 2), [0]),
        ])

    def test_at_a_broken_place(self):
        m = s(2, 1, 3)
        self.assert_cut([(s(0, 0), s(2, 1)), (s(0, 1), s(1, 0))], [
            (s(0, 0), m, [0]), (s(0, 1), m, [1]), (m, s(1, 0), [1]), (m, s(2, 1), [0]),
        ])

    def test_touching_amid_and_at_an_end(self):
        self.assert_cut([(s(0, 0), s(2, 0)), (s(1, 0), s(1, 3))], [
            (s(0, 0), s(1, 0), [0]), (s(1, 0), s(1, 3), [1]), (s(1, 0), s(2, 0), [0]),
        ])
        self.assert_cut([(s(0, 0), s(2, 0)), (s(2, 0), s(2, 3))], [(s(0, 0), s(2, 0), [0]), (s(2, 0), s(2, 3), [1])])
        self.assert_cut([(s(0, 0), s(2, 0)), (s(2, 0), s(5, 0))], [(s(0, 0), s(2, 0), [0]), (s(2, 0), s(5, 0), [1])])

    def test_upon_one_another_in_part(self):
        self.assert_cut([(s(0, 0), s(2, 0)), (s(1, 0), s(3, 0))], [
            (s(0, 0), s(1, 0), [0]), (s(1, 0), s(2, 0), [0, 1]), (s(2, 0), s(3, 0), [1]),
        ])
        self.assert_cut([(s(0, 1), s(0, 2)), (s(0, 0), s(0, 3))], [
            (s(0, 0), s(0, 1), [1]), (s(0, 1), s(0, 2), [0, 1]), (s(0, 2), s(0, 3), [1]),
        ])
        self.assert_cut([(s(0, 0), s(3, 3)), (s(0, 0), s(1, 1))], [
            (s(0, 0), s(1, 1), [0, 1]), (s(1, 1), s(3, 3), [0]),
        ])

    def test_alike_and_turned_about(self):
        self.assert_cut([(s(0, 0), s(1, 0))] * 3, [(s(0, 0), s(1, 0), [0, 1, 2])])
        self.assert_cut(
            [(s(0, 0), s(1, 0)), (s(5, 5), s(6, 6)), (s(1, 0), s(0, 0))],
            [(s(0, 0), s(1, 0), [0, 2]), (s(5, 5), s(6, 6), [1])],
        )

    def test_three_through_one_spot(self):
        self.assert_cut([(s(0, 0), s(2, 2)), (s(0, 2), s(2, 0)), (s(0, 1), s(2, 1))], [
            (s(0, 0), s(1, 1), [0]), (s(0, 1), s(1, 1), [2]), (s(0, 2), s(1, 1), [1]),
            (s(1, 1), s(2, 0), [1]), (s(1, 1), s(2, 1), [2]), (s(1, 1), s(2, 2), [0]),
        ])

    def test_across_what_lies_upon_one_another(self):
        self.assert_cut([(s(0, 0), s(6, 0)), (s(2, 0), s(8, 0)), (s(3, -1), s(3, 1))], [
            (s(0, 0), s(2, 0), [0]), (s(2, 0), s(3, 0), [0, 1]), (s(3, -1), s(3, 0), [2]), (s(3, 0), s(3, 1), [2]),
            (s(3, 0), s(6, 0), [0, 1]), (s(6, 0), s(8, 0), [1]),
        ])

    def test_an_end_in_a_row_of_three_upon_one_another(self):
        self.assert_cut([(s(0, 0), s(9, 0)), (s(1, 0), s(8, 0)), (s(4, 0), s(5, 0))], [
            (s(0, 0), s(1, 0), [0]), (s(1, 0), s(4, 0), [0, 1]), (s(4, 0), s(5, 0), [0, 1, 2]), (s(5, 0), s(8, 0), [0, 1]),
            (s(8, 0), s(9, 0), [0]),
        ])

    def test_the_order_is_that_of_places(self):
        sides = [(s(1, 0, 2), s(5, 5)), (s(1, 0, 3), s(6, 6)), (s(1, 0, 2), s(5, 4)), (s(1, 0, 2), s(9, -9, 2))]
        told = pieces(sides)
        self.assertEqual(told, sorted(told, key=places))
        self.assertEqual(told[0], (s(1, 0, 3), told[0][1]))

    def test_sides_by_chance(self):
        for seed in range(150):
            sides = chance_sides(seed, 2 + seed % 9, GRID if seed % 3 else ODD_SPOTS)
            expected = paper_by_shares(sides)
            before = list(sides)
            self.assertEqual(pieces(sides), list(expected))
            self.assertEqual(piece_paper(sides), list(expected.values()))
            self.assertEqual(sides, before)

    def test_nothing_in_common_but_ends_and_each_side_whole(self):
        for seed in range(20):
            sides = chance_sides(seed, 8, GRID)
            told = pieces(sides)
            self.assertTrue(all(place(p) < place(q) for p, q in told))
            for one, other in itertools.combinations(told, 2):
                self.assertTrue(touches_in_ends_alone(one, other))
            self.assertEqual({p for piece in told for p in piece}, corners_by_shares(sides))
            for k, side in enumerate(sides):
                part = [piece for piece, numbers in zip(told, piece_paper(sides)) if k in numbers]
                self.assertEqual({part[0][0], part[-1][1]}, set(side))
                self.assertTrue(all(one[1] == other[0] for one, other in zip(part, part[1:])))

    def test_cut_again_they_stay(self):
        for seed in range(20):
            told = pieces(chance_sides(seed, 10, GRID + ODD_SPOTS))
            self.assertEqual(pieces(told), told)
            self.assertEqual(piece_paper(told), [[k] for k in range(len(told))])
            self.assertEqual(pieces([side[::-1] for side in reversed(told)]), told)

    def test_great_numbers(self):
        sides = [
            (s(-GREAT, -GREAT), s(GREAT, GREAT - 1)), (s(-GREAT, GREAT, GREAT - 1), s(GREAT, -GREAT, GREAT - 3)),
            (s(-GREAT, 0), s(GREAT, 1)), (s(0, -GREAT), s(1, GREAT)),
        ]
        expected = paper_by_shares(sides)
        self.assertEqual(pieces(sides), list(expected))
        self.assertEqual(piece_paper(sides), list(expected.values()))
        self.assertGreater(max(p[2] for p, q in expected), GREAT)
        again = pieces(sides) + [(s(0, 0), common_by_shares(sides[0], sides[1])[1])]
        self.assertEqual(pieces(again), list(paper_by_shares(again)))

    def test_as_many_sides_as_may_be(self):
        level = [(s(-1, k), s(120, k)) for k in range(120)]
        upright = [(s(k, -1), s(k, 120)) for k in range(120)]
        told = pieces(level + upright)
        self.assertEqual(len(told), 2 * 120 * 121)
        self.assertEqual(told[:2], [(s(-1, 0), s(0, 0)), (s(-1, 1), s(0, 1))])

    def test_new_lists_each_time_and_each_its_own(self):
        sides = [(s(0, 0), s(2, 0)), (s(0, 0), s(2, 0)), (s(1, 0), s(1, 1))]
        told, paper = pieces(sides), piece_paper(sides)
        self.assertEqual((type(told), type(told[0]), type(paper), type(paper[0])), (list, tuple, list, list))
        self.assertEqual(paper, [[0, 1], [2], [0, 1]])
        paper[0].append(9)
        self.assertEqual(paper, [[0, 1, 9], [2], [0, 1]])
        told.clear()
        self.assertEqual(len(pieces(sides)), 3)
        self.assertEqual(piece_paper(sides), [[0, 1], [2], [0, 1]])


if __name__ == "__main__":
    unittest.main()
