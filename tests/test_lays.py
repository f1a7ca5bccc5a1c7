"""Lays: piles, common faces with their rows, and the paper of sides."""

import itertools
import unittest

from by_fractions import (
    area_by_places, corners_by_shares, face_around, goings_of, loops_by_directions, paper_by_shares, rotations,
    where_by_places,
)
from examples import box, chance_pile, loop, touches_in_ends_alone
from sheetlay.errors import NoPile
from sheetlay.lays import Lay
from sheetlay.pieces import pieces
from sheetlay.sheets import Sheet
from sheetlay.spots import spot
from sheetlay.sums import marks_of, summed
from sheetlay.within import spot_in

GREAT = 10 ** 30

# Of one land, from 0, 0 to 4, 4; their borders have unlike straight spots.
UPRIGHT = Sheet("soil", [("west", "wood", box(0, 0, 2, 4)), ("east", "lake", box(2, 0, 4, 4))])
LEVEL = Sheet("use", [("north", "farm", box(0, 2, 4, 4)), ("south", "town", box(0, 0, 4, 2))])
SLANTED = Sheet("rain", [("much", "wet", loop((4, 4), (0, 4), (0, 0))), ("little", "dry", loop((0, 0), (4, 0), (4, 4)))])
WHOLE = Sheet("owner", [("all", "king", box(0, 0, 4, 4))])

LANDS = [box(0, 0, 12, 12), loop((0, 0), (9, 0), (4, 8)), loop((0, 0), (12, 0), (12, 12), (6, 6), (6, 3), (0, 9))]


def named(name, sheet):
    return Sheet(name, sheet.faces)


def all_sides(sheets):
    return [side for sheet in sheets for word, mark, some in sheet.faces for side in goings_of(some)]


def moved(sheet, change):
    return Sheet(sheet.name, [(word, mark, tuple(change(p) for p in some)) for word, mark, some in sheet.faces])


def chance_piles():
    for seed in range(24):
        counts = [(5, 5), (4, 4, 4), (6,), (3, 3, 3, 3), (1, 5)][seed % 5]
        yield chance_pile(seed, LANDS[seed % 3], counts)


class Piles(unittest.TestCase):
    def assert_no_pile(self, one, other, sheets):
        with self.assertRaises(NoPile) as told:
            Lay(sheets)
        self.assertEqual((told.exception.one, told.exception.other), (one, other))

    far = Sheet("far", [("a", "b", box(0, 0, 4, 5))])
    near = Sheet("near", [("a", "b", box(0, 0, 4, 3))])

    def test_alike_names(self):
        self.assert_no_pile(0, 1, [UPRIGHT, named("soil", LEVEL)])
        self.assert_no_pile(0, 1, [UPRIGHT, UPRIGHT])
        self.assert_no_pile(0, 2, [UPRIGHT, LEVEL, UPRIGHT])
        self.assert_no_pile(1, 2, [UPRIGHT, LEVEL, named("use", SLANTED)])

    def test_unlike_lands(self):
        self.assert_no_pile(0, 1, [UPRIGHT, self.far])
        self.assert_no_pile(0, 2, [UPRIGHT, LEVEL, self.far])
        self.assert_no_pile(0, 1, [self.far, UPRIGHT, LEVEL])
        self.assert_no_pile(0, 1, [Sheet("a", [("a", "b", box(0, 0, 1, 1))]), Sheet("b", [("a", "b", box(5, 0, 6, 1))])])

    def test_the_least_other_then_the_least_one(self):
        self.assert_no_pile(0, 2, [UPRIGHT, LEVEL, UPRIGHT, LEVEL])
        self.assert_no_pile(1, 2, [UPRIGHT, LEVEL, LEVEL, UPRIGHT])
        self.assert_no_pile(0, 2, [UPRIGHT, LEVEL, named("use", self.far)])
        self.assert_no_pile(0, 1, [UPRIGHT, self.far, UPRIGHT])
        self.assert_no_pile(2, 3, [UPRIGHT, LEVEL, SLANTED, named("rain", UPRIGHT)])
        self.assert_no_pile(0, 3, [UPRIGHT, LEVEL, SLANTED, named("rain", self.far)])
        self.assert_no_pile(0, 1, [self.near, self.far, self.near, self.far])

    def test_unlike_straight_spots_are_no_hindrance(self):
        for sheets in itertools.permutations([UPRIGHT, LEVEL, SLANTED, WHOLE]):
            Lay(list(sheets))

    def test_alike_faces_and_marks_are_no_hindrance(self):
        Lay([UPRIGHT, named("other", UPRIGHT)])


class Faces(unittest.TestCase):
    def test_one_sheet_alone(self):
        lay = Lay([UPRIGHT])
        self.assertEqual(lay.faces, [(box(0, 0, 2, 4), ("west",)), (box(2, 0, 4, 4), ("east",))])
        self.assertEqual(lay.pieces, pieces(all_sides([UPRIGHT])))
        self.assertEqual(Lay([WHOLE]).faces, [(box(0, 0, 4, 4), ("all",))])

    def test_one_sheet_told_otherwise(self):
        for some in rotations(box(0, 0, 2, 4)):
            lay = Lay([Sheet("s", [("east", "lake", box(2, 0, 4, 4)), ("west", "wood", some)])])
            self.assertEqual(lay.faces, [(box(0, 0, 2, 4), ("west",)), (box(2, 0, 4, 4), ("east",))])

    def test_sides_that_cross(self):
        lay = Lay([UPRIGHT, LEVEL])
        self.assertEqual(lay.faces, [
            (box(0, 0, 2, 2), ("west", "south")), (box(0, 2, 2, 4), ("west", "north")),
            (box(2, 0, 4, 2), ("east", "south")), (box(2, 2, 4, 4), ("east", "north")),
        ])
        self.assertEqual(len(lay.pieces), 12)
        self.assertEqual([row for some, row in Lay([LEVEL, UPRIGHT]).faces], [row[::-1] for some, row in lay.faces])

    def test_sides_that_meet_at_one_spot(self):
        lay = Lay([SLANTED, UPRIGHT, LEVEL])
        self.assertEqual(lay.faces, [
            (loop((0, 0), (2, 0), (2, 2)), ("little", "west", "south")),
            (loop((0, 0), (2, 2), (0, 2)), ("much", "west", "south")),
            (loop((0, 2), (2, 2), (2, 4), (0, 4)), ("much", "west", "north")),
            (loop((2, 0), (4, 0), (4, 2), (2, 2)), ("little", "east", "south")),
            (loop((2, 2), (4, 2), (4, 4)), ("little", "east", "north")),
            (loop((2, 2), (4, 4), (2, 4)), ("much", "east", "north")),
        ])

    def test_sides_upon_one_another(self):
        lay = Lay([UPRIGHT, named("other", UPRIGHT)])
        self.assertEqual(lay.faces, [(box(0, 0, 2, 4), ("west", "west")), (box(2, 0, 4, 4), ("east", "east"))])
        # The stair goes along the upright side for half of it.
        stair = Sheet("stair", [
            ("low", "a", loop((0, 0), (4, 0), (4, 1), (2, 1), (2, 3), (0, 3))),
            ("high", "b", loop((4, 1), (4, 4), (0, 4), (0, 3), (2, 3), (2, 1))),
        ])
        self.assertEqual(Lay([UPRIGHT, stair]).faces, [
            (loop((0, 0), (2, 0), (2, 1), (2, 3), (0, 3)), ("west", "low")), (box(0, 3, 2, 4), ("west", "high")),
            (box(2, 0, 4, 1), ("east", "low")), (loop((2, 1), (4, 1), (4, 4), (2, 4), (2, 3)), ("east", "high")),
        ])

    def test_faces_within_a_face(self):
        # No side of the whole lies by the midst.
        frame = Sheet("frame", [
            ("mid", "a", box(1, 1, 3, 3)), ("left", "b", loop((0, 0), (4, 0), (3, 1), (1, 1), (1, 3), (0, 4))),
            ("right", "c", loop((4, 0), (4, 4), (0, 4), (1, 3), (3, 3), (3, 1))),
        ])
        for sheets in ([WHOLE, frame], [WHOLE, frame, UPRIGHT], [frame, WHOLE, SLANTED]):
            lay = Lay(sheets)
            k = sheets.index(frame)
            self.assertEqual({row[sheets.index(WHOLE)] for some, row in lay.faces}, {"all"})
            self.assertEqual({row[k] for some, row in lay.faces}, {"mid", "left", "right"})
        self.assertEqual(Lay([WHOLE, frame]).faces[2], (box(1, 1, 3, 3), ("all", "mid")))

    def test_several_faces_with_one_row(self):
        teeth = Sheet("teeth", [
            ("up", "a", loop((4, 1), (4, 4), (0, 4), (0, 1), (1, 3), (2, 1), (3, 3))),
            ("down", "b", loop((0, 0), (4, 0), (4, 1), (3, 3), (2, 1), (1, 3), (0, 1))),
        ])
        rows = [row for some, row in Lay([LEVEL, teeth]).faces]
        north = [("north", "down")] * 2 + [("north", "up")]
        self.assertEqual(sorted(rows), north + [("south", "down")] + [("south", "up")] * 3)

    def test_kinds(self):
        lay = Lay([UPRIGHT, LEVEL])
        self.assertEqual([type(thing) for thing in (lay.sheets, lay.pieces, lay.faces, lay.paper())], [list] * 4)
        self.assertEqual({type(face) for face in lay.faces} | {type(row) for some, row in lay.faces}, {tuple})
        self.assertEqual({type(piece) for piece in lay.pieces} | {type(told) for told in lay.paper()}, {tuple})


class ByChance(unittest.TestCase):
    def test_pieces_loops_and_rows(self):
        for sheets in chance_piles():
            lay = Lay(sheets)
            self.assertEqual(lay.pieces, list(paper_by_shares(all_sides(sheets))))
            loops = [some for some in loops_by_directions(lay.pieces) if area_by_places(some) > 0]
            self.assertEqual([some for some, row in lay.faces], loops)
            for some, row in lay.faces:
                p = spot_in(some)
                self.assertEqual(where_by_places(some, p), 1)
                self.assertEqual(row, tuple(face_around(sheet.faces, p) for sheet in sheets))

    def test_paper(self):
        for sheets in chance_piles():
            lay = Lay(sheets)
            at_left = {going: n for n, (some, row) in enumerate(lay.faces) for going in goings_of(some)}
            self.assertEqual(lay.paper(), [(p, q, at_left.get((p, q)), at_left.get((q, p))) for p, q in lay.pieces])
            border = [(left, right) for p, q, left, right in lay.paper() if None in (left, right)]
            self.assertNotIn((None, None), border)
            self.assertGreaterEqual(len(border), len(sheets[0].land()))

    def test_the_common_web(self):
        # Nothing in common but ends; the corners are the ends and crossings.
        for seed in range(4):
            sheets = chance_pile(seed, LANDS[seed % 3], (4, 4))
            lay = Lay(sheets)
            for one, other in itertools.combinations(lay.pieces, 2):
                self.assertTrue(touches_in_ends_alone(one, other))
            self.assertEqual({p for piece in lay.pieces for p in piece}, corners_by_shares(all_sides(sheets)))

    def test_areas_add_up_for_each_face_and_mark(self):
        for sheets in chance_piles():
            lay = Lay(sheets)
            self.assertEqual(sum(area_by_places(some) for some, row in lay.faces), area_by_places(sheets[0].land()))
            for k, sheet in enumerate(sheets):
                for word, mark, own in sheet.faces:
                    parts = [area_by_places(some) for some, row in lay.faces if row[k] == word]
                    self.assertEqual(sum(parts), area_by_places(own))

    def test_each_spot_is_in_just_one_face(self):
        for seed in range(6):
            lay = Lay(chance_pile(seed, LANDS[seed % 3], (4, 4)))
            for x, y in itertools.product(range(-1, 26, 3), repeat=2):
                p = spot(2 * x + 1, 4 * y + 1, 4)
                around = [n for n, (some, row) in enumerate(lay.faces) if where_by_places(some, p) == 1]
                self.assertLessEqual(len(around), 1)
                self.assertEqual(lay.face_at(p), around[0] if around else None)

    def test_great_numbers(self):
        def change(p):
            return spot(p[0] * GREAT + p[2], p[1] * (GREAT - 1) - 7 * p[2], 12 * p[2])

        for seed in range(4):
            sheets = chance_pile(seed, LANDS[seed % 3], (4, 3, 3))
            lay, great = Lay(sheets), Lay([moved(sheet, change) for sheet in sheets])
            self.assertEqual(great.faces, [(tuple(change(p) for p in some), row) for some, row in lay.faces])
            self.assertEqual(great.pieces, [(change(p), change(q)) for p, q in lay.pieces])

    def test_what_was_told_is_laid_again(self):
        for seed in range(6):
            sheets = chance_pile(seed, LANDS[seed % 3], (4, 4, 3))
            lay = Lay(sheets)
            words = ["".join(letters) for letters in itertools.product("abcdefgh", repeat=3)]
            common = Sheet("common", [(words[n], "m", some[1:] + some[:1]) for n, (some, row) in enumerate(lay.faces)])
            again = Lay([sheets[0], common])
            self.assertEqual(again.pieces, lay.pieces)
            self.assertEqual(again.faces, [(some, (row[0], words[n])) for n, (some, row) in enumerate(lay.faces)])


class Paper(unittest.TestCase):
    def test_one_face(self):
        a, b, c, d = box(0, 0, 4, 4)
        self.assertEqual(Lay([WHOLE]).paper(), [(a, d, None, 0), (a, b, 0, None), (d, c, None, 0), (b, c, 0, None)])

    def test_two_faces(self):
        a, b, c, d = box(0, 0, 4, 4)
        e, f = loop((2, 0), (2, 4))
        self.assertEqual(Lay([UPRIGHT]).paper(), [
            (a, d, None, 0), (a, e, 0, None), (d, f, None, 0), (e, f, 0, 1),
            (e, b, 1, None), (f, c, None, 1), (b, c, 1, None),
        ])

    def test_the_faces_at_both_hands_lie_there(self):
        lay = Lay([UPRIGHT, LEVEL])
        self.assertIn((spot(2, 0), spot(2, 2), 0, 2), lay.paper())
        self.assertIn((spot(0, 2), spot(2, 2), 1, 0), lay.paper())
        self.assertIn((spot(2, 2), spot(2, 4), 1, 3), lay.paper())

    def test_a_new_list_each_time(self):
        lay = Lay([UPRIGHT])
        lay.paper().clear()
        self.assertEqual(len(lay.paper()), 7)


class FaceAt(unittest.TestCase):
    lay = Lay([UPRIGHT, LEVEL])

    def test_within(self):
        for n, p in enumerate((spot(1, 1), spot(1, 3), spot(3, 1), spot(3, 3))):
            self.assertEqual(self.lay.face_at(p), n)
        self.assertEqual(self.lay.face_at(spot(1, 1, GREAT)), 0)

    def test_on_a_side_and_at_a_corner(self):
        for p in (spot(2, 1), spot(1, 2), spot(2, 2), spot(0, 0), spot(4, 1), spot(2, 0), spot(1, 4)):
            self.assertIsNone(self.lay.face_at(p))

    def test_outside(self):
        for p in (spot(5, 1), spot(-1, 2), spot(1, -1, GREAT), spot(1, 5)):
            self.assertIsNone(self.lay.face_at(p))


class HandedIn(unittest.TestCase):
    def test_the_sheets_list_is_its_own(self):
        sheets = [UPRIGHT, LEVEL]
        lay = Lay(sheets)
        self.assertEqual(sheets, [UPRIGHT, LEVEL])
        sheets.append(SLANTED)
        sheets[0] = WHOLE
        self.assertEqual([sheet.name for sheet in lay.sheets], ["soil", "use"])
        lay.sheets.clear()
        self.assertEqual(len(sheets), 3)

    def test_the_sheets_are_its_own(self):
        sheets = [named("soil", UPRIGHT), named("use", LEVEL)]
        lay = Lay(sheets)
        before = (list(lay.faces), lay.paper(), [marks_of(lay, n) for n in range(4)], summed(lay, ["use"]))
        sheets[0].faces.clear()
        sheets[1].faces[0] = ("north", "moor", box(0, 2, 4, 4))
        after = (list(lay.faces), lay.paper(), [marks_of(lay, n) for n in range(4)], summed(lay, ["use"]))
        self.assertEqual(after, before)
        self.assertEqual([sheet.faces for sheet in lay.sheets], [UPRIGHT.faces, LEVEL.faces])
        lay.sheets[1].faces.clear()
        self.assertEqual(len(sheets[1].faces), 2)

    def test_the_sheets_stay(self):
        before = [list(sheet.faces) for sheet in (UPRIGHT, LEVEL, SLANTED)]
        Lay([UPRIGHT, LEVEL, SLANTED]).paper()
        self.assertEqual([sheet.faces for sheet in (UPRIGHT, LEVEL, SLANTED)], before)

    def test_two_lays_share_no_lists(self):
        one, other = Lay([UPRIGHT, LEVEL]), Lay([UPRIGHT, LEVEL])
        one.faces.clear()
        one.pieces.clear()
        self.assertEqual((len(other.faces), len(other.pieces)), (4, 12))


if __name__ == "__main__":
    unittest.main()
