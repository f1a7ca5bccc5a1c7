"""Borders made plainer: which spots can go, and sheets with their chains."""

import itertools
import random
import unittest
from fractions import Fraction

from by_fractions import (
    area_by_places, fraction, goings_of, is_on, neighbours, place, places, rotations, square_by_shares, where_by_places,
)
from examples import box, chance_pile, loop
from sheetlay.lays import Lay
from sheetlay.plainer import can_go, lies_at, plainer
from sheetlay.sheets import Sheet
from sheetlay.spots import spot

FAR = (100, 1)
LANDS = [box(0, 0, 12, 12), loop((0, 0), (12, 0), (12, 12), (6, 6), (6, 3), (0, 9))]


def strips(*borders):
    # A box of 12 by 8 in strips, parted by borders from below to above.
    borders = [loop((0, 0), (0, 8))] + [loop(*border) for border in borders] + [loop((12, 0), (12, 8))]
    return Sheet("s", [("abcdef"[k], "mn"[k % 2], left[::-1] + right) for k, (left, right) in enumerate(zip(borders, borders[1:]))])


def spots_of(sheet):
    return {p for word, mark, some in sheet.faces for p in some}


class CanGo(unittest.TestCase):
    bent = strips([(4, 0), (5, 4), (4, 8)])

    def test_a_spot_with_two_sides(self):
        self.assertIs(can_go(self.bent, spot(5, 4), (1, 1)), True)
        self.assertIs(can_go(self.bent, spot(5, 4), FAR), True)

    def test_too_far(self):
        self.assertIs(can_go(self.bent, spot(5, 4), (99, 100)), False)
        self.assertIs(can_go(self.bent, spot(5, 4), (0, 1)), False)
        slanted = strips([(4, 0), (6, 2), (8, 8)])
        # 4/5 is how far it is, squared.
        self.assertIs(can_go(slanted, spot(6, 2), (90, 100)), True)
        self.assertIs(can_go(slanted, spot(6, 2), (89, 100)), False)

    def test_far_is_from_the_side_and_not_from_its_row(self):
        # The spot lies beyond b, in the row of the side from a to b but for
        # a little.
        hook = strips([(4, 0), (4, 7), (5, 5), (5, 8)])
        self.assertEqual(square_by_shares(spot(4, 7), (spot(4, 0), spot(5, 5))), Fraction(5))
        self.assertIs(can_go(hook, spot(4, 7), (2, 1)), False)
        self.assertIs(can_go(hook, spot(4, 7), (9, 4)), True)

    def test_in_one_row(self):
        straight = strips([(4, 0), (4, 3), (4, 8)])
        self.assertIs(can_go(straight, spot(4, 3), (0, 1)), True)
        self.assertIs(can_go(strips([(2, 0), (4, 2), (8, 6), (8, 8)]), spot(4, 2), (0, 1)), True)

    def test_on_the_border(self):
        for p in loop((4, 0), (4, 8), (0, 0), (12, 0), (12, 8), (0, 8)):
            self.assertIs(can_go(self.bent, p, FAR), False)
        alone = Sheet("s", [("a", "m", loop((0, 0), (2, 0), (4, 0), (3, 2), (4, 4), (0, 4)))])
        for p in spots_of(alone):
            self.assertIs(can_go(alone, p, FAR), False)

    def test_more_than_two_sides(self):
        crossed = Sheet("s", [("a", "m", box(0, 0, 2, 2)), ("b", "n", box(2, 0, 4, 2)), ("c", "o", box(0, 2, 2, 4)), ("d", "p", box(2, 2, 4, 4))])
        self.assertIs(can_go(crossed, spot(2, 2), FAR), False)
        three = Sheet("s", [("a", "m", loop((0, 0), (4, 0), (2, 2))), ("b", "n", loop((4, 0), (2, 6), (2, 2))), ("c", "o", loop((2, 6), (0, 0), (2, 2)))])
        self.assertIs(can_go(three, spot(2, 2), FAR), False)

    def test_a_side_that_joins_the_two_already(self):
        # The lens between a and b is a triangle, p its corner.
        low, high, p = loop((4, 1), (4, 7), (6, 4))
        ends = loop((4, 0), (4, 8))
        west = loop((0, 0)) + (ends[0], low, high, ends[1]) + loop((0, 8))
        east = (ends[0],) + loop((12, 0), (12, 8)) + (ends[1], high, p, low)
        sheet = Sheet("s", [("a", "m", west), ("b", "n", (low, p, high)), ("c", "o", east)])
        self.assertIs(can_go(sheet, p, FAR), False)
        self.assertIs(can_go(sheet, low, FAR), False)
        # Of four corners, one can go, whatever its place; then none.
        p, q = loop((6, 3), (6, 5))
        east = (ends[0],) + loop((12, 0), (12, 8)) + (ends[1], high, q, p, low)
        sheet = Sheet("s", [("a", "m", west), ("b", "n", (low, p, q, high)), ("c", "o", east)])
        self.assertEqual([can_go(sheet, one, FAR) for one in (p, q)], [True, True])
        told, paper = plainer(sheet, FAR)
        self.assertEqual(told.faces[1], ("b", "n", (low, q, high)))
        self.assertEqual(paper, [(low, q, (low, p, q))])

    def test_a_spot_within_the_triangle(self):
        sheet = strips([(1, 0), (5, 4), (1, 8)], [(2, 0), (6, 4), (2, 8)])
        self.assertIs(can_go(sheet, spot(6, 4), FAR), False)
        self.assertIs(can_go(sheet, spot(5, 4), FAR), True)
        sheet = strips([(1, 0), (1, 4), (1, 8)], [(2, 0), (6, 4), (2, 8)])
        self.assertIs(can_go(sheet, spot(6, 4), FAR), True)

    def test_a_spot_on_the_border_of_the_triangle(self):
        sheet = strips([(1, 0), (2, 4), (1, 8)], [(2, 0), (6, 4), (2, 8)])
        self.assertIs(can_go(sheet, spot(6, 4), FAR), False)
        sheet = strips([(1, 0), (199, 400, 100), (1, 8)], [(2, 0), (6, 4), (2, 8)])
        self.assertIs(can_go(sheet, spot(6, 4), FAR), True)

    def test_a_spot_at_the_triangle(self):
        a, p, b = loop((0, 0), (2, 4), (4, 0))
        for q, expected in ((spot(2, 1), True), (spot(2, 0), True), (spot(1, 2), True), (spot(3, 2), True), (spot(2, -1), False),
                            (spot(2, 5), False), (spot(0, 4), False), (spot(5, 0), False)):
            self.assertIs(lies_at(q, a, p, b), expected)
            self.assertIs(lies_at(q, b, p, a), expected)
        # In one row: on the side from a to b.
        a, p, b = loop((0, 0), (1, 1), (4, 4))
        for q, expected in ((spot(3, 3), True), (spot(1, 1, 2), True), (spot(5, 5), False), (spot(2, 1), False), (spot(-1, -1), False)):
            self.assertIs(lies_at(q, a, p, b), expected)
            self.assertIs(lies_at(q, b, p, a), expected)

    def test_a_spot_of_none_of_the_loops(self):
        for p in (spot(5, 5), spot(4, 4), spot(9, 2, 2), spot(100, 1), spot(2, 0)):
            self.assertIs(can_go(self.bent, p, FAR), False)

    def test_each_side_stands_for_its_ends_alone(self):
        sheet = strips([(4, 0), (3, 3), (4, 4), (5, 8)])
        told, paper = plainer(sheet, (1, 1))
        self.assertEqual(told.faces[0][2], loop((0, 8), (0, 0), (4, 0), (4, 4), (5, 8)))
        self.assertIs(can_go(told, spot(4, 4), (1, 1)), True)


class Plainer(unittest.TestCase):
    def test_nothing_goes(self):
        sheet = strips([(4, 0), (5, 4), (4, 8)])
        told, paper = plainer(sheet, (1, 2))
        self.assertEqual((told.name, told.faces, paper), ("s", sheet.faces, []))
        self.assertIsNot(told, sheet)
        self.assertIsNot(told.faces, sheet.faces)

    def test_one_goes(self):
        sheet = strips([(4, 0), (5, 4), (4, 8)])
        told, paper = plainer(sheet, (1, 1))
        self.assertEqual(told.faces, strips([(4, 0), (4, 8)]).faces)
        a, p, b = loop((4, 0), (5, 4), (4, 8))
        self.assertEqual(paper, [(a, b, (a, p, b))])

    def test_spots_in_one_row_go_for_nought(self):
        told, paper = plainer(strips([(4, 0), (5, 2), (6, 4), (5, 6), (4, 8)]), (0, 1))
        self.assertEqual(told.faces, strips([(4, 0), (6, 4), (4, 8)]).faces)
        a, p, b, q, c = loop((4, 0), (5, 2), (6, 4), (5, 6), (4, 8))
        # From the end that is ahead on: c is ahead of b.
        self.assertEqual(paper, [(a, b, (a, p, b)), (c, b, (c, q, b))])

    def test_the_first_spot_in_order_goes_first_again_and_again(self):
        bends = [(4, 0), (5, 2), (3, 4), (5, 6), (4, 8)]
        a, p, q, r, b = loop(*bends)
        told, paper = plainer(strips(bends), (2, 1))
        self.assertEqual(told.faces, strips([(4, 0), (4, 8)]).faces)
        self.assertEqual(paper, [(a, b, (a, p, q, r, b))])
        # Of two that could go, each of which hinders the other, the first
        # one goes, wherever it stands in the loops.
        for bends, first, other in (([(6, 3), (6, 5)], (6, 3), (6, 5)), ([(6, 3), (11, 10, 2)], (11, 10, 2), (6, 3))):
            sheet = strips([(4, 0)] + bends + [(4, 8)])
            far = (11, 10)
            self.assertEqual([can_go(sheet, p, far) for p in loop(*bends)], [True, True])
            told, paper = plainer(sheet, far)
            self.assertEqual(spots_of(sheet) - spots_of(told), {spot(*first)})
            self.assertEqual(told.faces, strips([(4, 0), other, (4, 8)]).faces)

    def test_a_chain_too_far(self):
        a, p, q, b = loop((4, 0), (3, 3), (4, 4), (5, 8))
        sheet = strips([(4, 0), (3, 3), (4, 4), (5, 8)])
        told, paper = plainer(sheet, (1, 1))
        self.assertEqual(told.faces, strips([(4, 0), (4, 4), (5, 8)]).faces)
        self.assertEqual(paper, [(a, q, (a, p, q))])
        # 121/65 is how far p is from the whole, squared.
        self.assertEqual(plainer(sheet, (137, 100))[1], [(a, b, (a, p, q, b))])
        self.assertEqual(plainer(sheet, (136, 100))[1], [(a, q, (a, p, q))])

    def test_the_loops_go_on_from_where_they_stood(self):
        sheet = strips([(4, 0), (5, 3), (4, 5), (4, 8)])
        for some, other in itertools.product(rotations(sheet.faces[0][2]), rotations(sheet.faces[1][2])):
            faces = [("b", "n", other), ("a", "m", some)]
            told, paper = plainer(Sheet("t", faces), FAR)
            left = set(loop((4, 0), (4, 8), (0, 0), (0, 8), (12, 0), (12, 8)))
            self.assertEqual(told.name, "t")
            self.assertEqual(told.faces, [(word, mark, tuple(p for p in own if p in left)) for word, mark, own in faces])

    def test_the_paper_in_order(self):
        told, paper = plainer(strips([(2, 0), (3, 1), (2, 8)], [(5, 0), (5, 8)], [(9, 0), (8, 5), (9, 8)]), (1, 1))
        chains = [loop((2, 0), (3, 1), (2, 8)), loop((9, 0), (8, 5), (9, 8))]
        self.assertEqual(paper, [(chain[0], chain[-1], chain) for chain in chains])

    def test_the_same_face_by_the_same_face(self):
        # A spot where three faces meet stays, though it is in one row.
        low, mid, high = loop((4, 0), (4, 4), (4, 8))
        faces = [("a", "m", loop((0, 0), (4, 0), (4, 4), (4, 8), (0, 8))), ("b", "n", loop((4, 0), (12, 0), (12, 4), (8, 5), (4, 4))),
                 ("c", "o", loop((12, 4), (12, 8), (4, 8), (4, 4), (8, 5)))]
        told, paper = plainer(Sheet("s", faces), FAR)
        self.assertEqual(told.faces[0], faces[0])
        self.assertEqual(told.faces[1:], [("b", "n", loop((4, 0), (12, 0), (12, 4), (4, 4))), ("c", "o", loop((12, 4), (12, 8), (4, 8), (4, 4)))])
        self.assertEqual(paper, [(mid, spot(12, 4), (mid, spot(8, 5), spot(12, 4)))])

    def test_the_sheet_handed_in_is_not_changed(self):
        sheet = strips([(4, 0), (5, 3), (4, 5), (4, 8)])
        before = (sheet.name, list(sheet.faces), sheet.border())
        told, paper = plainer(sheet, FAR)
        can_go(sheet, spot(5, 3), FAR)
        told.faces.clear()
        paper.clear()
        self.assertEqual((sheet.name, sheet.faces, sheet.border()), before)
        self.assertEqual(len(plainer(sheet, FAR)[1]), 1)

    def test_kinds(self):
        told = plainer(strips([(4, 0), (5, 4), (4, 8)]), FAR)
        self.assertEqual((type(told), type(told[0]), type(told[1]), type(told[1][0]), type(told[1][0][2])), (tuple, Sheet, list, tuple, tuple))


# The same once more, by other ways.

def sides_by_spot(loops):
    found = {}
    for a, b in {frozenset(side) for some in loops for side in goings_of(some)}:
        found.setdefault(a, set()).add(b)
        found.setdefault(b, set()).add(a)
    return found


def hinders(q, a, p, b):
    if area_by_places((a, p, b)) == 0:
        return is_on(q, (a, b))
    return where_by_places((a, p, b), q) != -1


def chain_by_walk(chains, a, b):
    chain = chains.get(frozenset((a, b)), (a, b))
    return chain if chain[0] == a else chain[::-1]


def can_go_by_places(loops, border, chains, p, far):
    near = sides_by_spot(loops)
    if p not in near or p in border or len(near[p]) != 2:
        return False
    a, b = near[p]
    if b in near[a] or any(hinders(q, a, p, b) for q in near if q not in (a, p, b)):
        return False
    whole = chain_by_walk(chains, a, p) + chain_by_walk(chains, p, b)
    return all(square_by_shares(q, (a, b)) <= fraction(far) ** 2 for q in whole)


def plainer_by_places(sheet, far):
    loops = [some for word, mark, some in sheet.faces]
    chains = {}
    while True:
        near = sides_by_spot(loops)
        free = [p for p in sorted(near, key=place) if can_go_by_places(loops, sheet.border(), chains, p, far)]
        if not free:
            break
        p = free[0]
        a, b = near[p]
        chains[frozenset((a, b))] = chain_by_walk(chains, a, p) + chain_by_walk(chains, p, b)[1:]
        loops = [tuple(q for q in some if q != p) for some in loops]
    near = sides_by_spot(loops)
    paper = [min(chain, chain[::-1], key=places) for chain in chains.values() if chain[-1] in near.get(chain[0], ())]
    faces = [(word, mark, some) for (word, mark, own), some in zip(sheet.faces, loops)]
    return faces, sorted([(chain[0], chain[-1], chain) for chain in paper], key=lambda told: places(told[:2]))


def jagged(chance):
    # Strips with jagged borders, their bends in halves.
    borders = []
    for k in range(chance.randint(1, 3)):
        levels = sorted(chance.sample(range(1, 8), chance.randint(2, 7)))
        bends = [(6 * k + 6 + chance.choice([-2, -1, 0, 0, 1, 2]), 2 * y, 2) for y in levels]
        borders.append([(3 * k + 3, 0)] + bends + [(3 * k + 3, 8)])
    return strips(*borders)


def chance_sheets(seed, count):
    chance = random.Random(seed)
    for k in range(count):
        if k % 2:
            sheet = jagged(chance)
        else:
            sheet = chance_pile(k, LANDS[k // 2 % 2], (chance.randint(2, 7),))[0]
        if len(spots_of(sheet)) <= 40:
            yield sheet, chance.choice([(0, 1), (1, 3), (1, 1), (7, 5), (3, 1), (100, 1)])


class ByChance(unittest.TestCase):
    def test_sheets_and_papers(self):
        gone = 0
        for sheet, far in chance_sheets(33, 70):
            told, paper = plainer(sheet, far)
            self.assertEqual((told.faces, paper), plainer_by_places(sheet, far))
            gone += len(spots_of(sheet)) - len(spots_of(told))
        self.assertGreater(gone, 100)

    def test_which_spots_can_go(self):
        for sheet, far in chance_sheets(32, 40):
            loops = [some for word, mark, some in sheet.faces]
            for p in spots_of(sheet):
                self.assertIs(can_go(sheet, p, far), can_go_by_places(loops, sheet.border(), {}, p, far))

    def test_what_is_promised_of_a_plainer_sheet(self):
        for sheet, far in chance_sheets(3, 40):
            told, paper = plainer(sheet, far)
            self.assertEqual([face[:2] for face in told.faces], [face[:2] for face in sheet.faces])
            self.assertEqual(told.border(), sheet.border())
            self.assertEqual(neighbours(told), neighbours(sheet))
            for a, b, chain in paper:
                self.assertEqual((a, b), (chain[0], chain[-1]))
                self.assertLess(place(a), place(b))
                self.assertGreater(len(chain), 2)
                self.assertEqual(len(set(chain)), len(chain))
                self.assertTrue(all(square_by_shares(p, (a, b)) <= fraction(far) ** 2 for p in chain))
            within = [p for a, b, chain in paper for p in chain[1:-1]]
            self.assertEqual(sorted(within), sorted(spots_of(sheet) - spots_of(told)))
            chains = {frozenset((a, b)): chain for a, b, chain in paper}
            loops = [some for word, mark, some in told.faces]
            for p in spots_of(told):
                self.assertFalse(can_go_by_places(loops, told.border(), chains, p, far))
            self.assertEqual(len(Lay([sheet, Sheet("other", told.faces)]).sheets), 2)

    def test_great_numbers(self):
        great = 10 ** 30
        a, p, q, b = (spot(4 * great, 0), spot(4 * great + 7, great, 1), spot(4 * great - 7, 2 * great), spot(4 * great, 8 * great))
        left = (spot(0, 0), a, p, q, b, spot(0, 8 * great))
        right = (a, spot(9 * great, 0), spot(9 * great, 8 * great), b, q, p)
        sheet = Sheet("s", [("a", "m", left), ("b", "n", right)])
        for far in ((6, 1), (10, 1), (11, 1), (great, great + 1), (great, 1)):
            self.assertEqual(plainer(sheet, far)[1], plainer_by_places(sheet, far)[1])
        self.assertEqual(plainer(sheet, (6, 1))[1], [])
        self.assertEqual(plainer(sheet, (13, 1))[1], [(a, b, (a, p, q, b))])


if __name__ == "__main__":
    unittest.main()
