"""Sheets: what they are refused with, border, land, and faces at a spot."""

import itertools
import unittest

from by_fractions import area_by_places, fraction, rotations, where_by_places
from examples import box, loop
from sheetlay.errors import BadFace, NoLand, NoName, SheetError, Twice
from sheetlay.loops import area
from sheetlay.sheets import Sheet
from sheetlay.spots import spot

GREAT = 10 ** 30

# Two rows of two boxes; west and east meet at the middle.
QUARTERS = [
    ("sw", "wood", box(0, 0, 2, 2)),
    ("se", "lake", box(2, 0, 4, 2)),
    ("ne", "wood", box(2, 2, 4, 4)),
    ("nw", "moor", box(0, 2, 2, 4)),
]
# A frame in two parts about a box in the midst.
FRAMED = [
    ("hill", "rock", box(1, 1, 2, 2)),
    ("left", "wood", loop((0, 0), (3, 0), (2, 1), (1, 1), (1, 2), (0, 3))),
    ("right", "lake", loop((3, 0), (3, 3), (0, 3), (1, 2), (2, 2), (2, 1))),
]
BOW = loop((0, 0), (2, 2), (2, 0), (0, 2))
LINE = loop((0, 0), (1, 1), (2, 2))


def faces_of(*loops):
    return [(word, "m", some) for word, some in zip("abcdefghijkl", loops)]


class Made(unittest.TestCase):
    def test_fields(self):
        sheet = Sheet("soil", QUARTERS)
        self.assertEqual(sheet.name, "soil")
        self.assertEqual(sheet.faces, QUARTERS)
        self.assertIs(type(sheet.faces), list)
        self.assertEqual({type(told) for told in sheet.faces}, {tuple})

    def test_loops_stay_as_they_were_told(self):
        for some in rotations(box(0, 0, 2, 2)):
            self.assertEqual(Sheet("soil", [("a", "b", some)]).faces, [("a", "b", some)])

    def test_the_list_handed_in_is_not_changed_and_not_kept(self):
        faces = list(QUARTERS)
        sheet = Sheet("soil", faces)
        self.assertEqual(faces, QUARTERS)
        self.assertIsNot(sheet.faces, faces)
        faces.pop()
        faces[0] = ("x", "y", BOW)
        self.assertEqual(sheet.faces, QUARTERS)
        self.assertEqual(sheet.border(), Sheet("soil", QUARTERS).border())
        self.assertEqual(sheet.told("sw"), QUARTERS[0])
        self.assertEqual(sheet.faces_at(spot(1, 3)), ["nw"])

    def test_two_sheets_of_one_list_keep_their_own(self):
        one, other = Sheet("one", QUARTERS), Sheet("other", QUARTERS)
        one.faces.clear()
        self.assertEqual(other.faces, QUARTERS)
        self.assertEqual(len(QUARTERS), 4)

    def test_alike_marks_are_no_hindrance(self):
        Sheet("soil", [(word, "same", some) for word, mark, some in QUARTERS])

    def test_a_face_and_a_mark_of_one_word(self):
        Sheet("soil", [("soil", "soil", box(0, 0, 1, 1))])

    def test_great_numbers(self):
        low, high = box(-GREAT, -GREAT, GREAT, 0), box(-GREAT, 0, GREAT, GREAT)
        sheet = Sheet("soil", faces_of(low, high))
        self.assertEqual(sheet.land(), box(-GREAT, -GREAT, GREAT, GREAT))
        self.assertEqual(sheet.faces_at(spot(1, 1, GREAT)), ["b"])
        self.assertEqual(sheet.faces_at(spot(1, 0, GREAT)), ["a", "b"])

    def test_beyond_the_bounds_nothing_is_refused(self):
        strips = [box(k, 0, k + 1, 1) for k in range(15)]
        sheet = Sheet("soil", [("f" * (k + 1), "m", some) for k, some in enumerate(strips)])
        self.assertEqual(sheet.land(), box(0, 0, 15, 1))
        teeth = [(60 - 2 * k, 5 + k % 2) for k in range(31)]
        self.assertEqual(len(Sheet("soil", faces_of(loop((0, 0), (60, 0), *teeth))).border()), 33)


class Refused(unittest.TestCase):
    def assert_bad(self, face, faces):
        with self.assertRaises(BadFace) as told:
            Sheet("soil", faces)
        self.assertEqual(told.exception.face, face)

    def assert_twice(self, one, other, faces):
        with self.assertRaises(Twice) as told:
            Sheet("soil", faces)
        self.assertEqual((told.exception.one, told.exception.other), (one, other))

    def assert_no_land(self, *loops):
        # In whichever order the faces are told.
        for some in itertools.permutations(loops):
            with self.assertRaises(NoLand):
                Sheet("soil", faces_of(*some))

    def test_a_word_that_stands_ahead(self):
        self.assert_bad("sw", QUARTERS[:3] + [("sw",) + QUARTERS[3][1:]])
        self.assert_bad("a", [("a", "m", box(0, 0, 1, 1)), ("a", "n", box(1, 0, 2, 1))])

    def test_a_loop_that_is_not_simple(self):
        a, b, c, d = box(0, 0, 2, 2)
        for some in (BOW, LINE, (), (a,), (a, b), (a, a, b, c), (a, b, c, a), (a, b, c, d, a, b, c, d)):
            self.assert_bad("a", faces_of(some))
        self.assert_bad("b", faces_of(box(2, 0, 4, 2), loop((0, 0), (2, 0), (2, 2), (1, 0), (0, 2))))

    def test_a_loop_without_an_area_above_nought(self):
        self.assert_bad("a", faces_of(box(0, 0, 2, 2)[::-1]))
        self.assert_bad("c", faces_of(box(0, 0, 1, 1), box(1, 0, 2, 1), box(2, 0, 3, 1)[::-1]))

    def test_the_first_bad_face_is_told(self):
        good, back = box(0, 0, 1, 1), box(1, 0, 2, 1)[::-1]
        self.assert_bad("b", [("a", "m", good), ("b", "m", BOW), ("a", "m", good)])
        self.assert_bad("a", [("a", "m", good), ("a", "m", good), ("b", "m", BOW)])
        self.assert_bad("c", [("a", "m", good), ("c", "m", back), ("b", "m", BOW), ("a", "m", good)])
        self.assert_bad("b", [("b", "m", BOW), ("a", "m", back), ("b", "m", good)])

    def test_bad_faces_ahead_of_sides_gone_twice(self):
        self.assert_bad("c", faces_of(box(0, 0, 1, 1), box(0, 0, 1, 1), BOW))
        self.assert_bad("a", [("a", "m", box(0, 0, 1, 1)), ("a", "m", box(0, 0, 1, 1))])

    def test_bad_faces_ahead_of_no_land(self):
        self.assert_bad("b", faces_of(box(0, 0, 1, 1), box(5, 5, 6, 6)[::-1]))

    def test_a_side_gone_twice(self):
        self.assert_twice("a", "b", faces_of(box(0, 0, 2, 2), loop((0, 0), (2, 0), (1, 1))))
        self.assert_twice("a", "b", faces_of(box(0, 0, 2, 2), box(0, 0, 2, 2)))
        self.assert_twice("a", "b", faces_of(box(0, 0, 2, 2), loop((0, 2), (0, 0), (5, -5))))

    def test_of_several_pairs_the_later_face_that_comes_first(self):
        side = loop((0, 0), (2, 0))
        some = [side + loop((1, k)) for k in (1, 2, 3)]
        apart = box(5, 5, 6, 6)
        self.assert_twice("a", "b", faces_of(*some))
        self.assert_twice("a", "c", faces_of(some[0], apart, some[1], some[2]))
        # c comes with a, b only with d: c is the later face that comes first.
        other = loop((7, 7), (9, 7))
        self.assert_twice("a", "c", faces_of(some[0], other + loop((8, 8)), some[1], other + loop((8, 9))))
        # Here it is c with b, though d comes with a.
        self.assert_twice("b", "c", faces_of(some[0], other + loop((8, 8)), other + loop((8, 9)), some[1]))

    def test_then_the_earlier_face_that_comes_first(self):
        # The last face has a side of each of the two others.
        a, b, c = loop((0, 0), (4, 0), (2, 3))
        self.assert_twice("a", "c", faces_of((a, b, spot(2, 1)), (b, c, spot(2, 1)), (a, b, c)))
        self.assert_twice("a", "c", faces_of((b, c, spot(2, 1)), (a, b, spot(2, 1)), (a, b, c)))
        self.assert_twice("a", "c", faces_of((b, c, spot(2, 1)), (a, b, spot(2, 1)), (b, c, a)))

    def test_the_words_are_told_and_not_their_order(self):
        faces = [("z", "m", box(0, 0, 2, 2)), ("b", "m", box(0, 0, 2, 2))]
        self.assert_twice("z", "b", faces)

    def test_sides_gone_twice_ahead_of_no_land(self):
        self.assert_twice("b", "c", faces_of(box(5, 5, 6, 6), box(0, 0, 2, 2), box(0, 0, 2, 2)))

    def test_a_land_with_a_hole(self):
        ring = [some for word, mark, some in FRAMED[1:]]
        self.assert_no_land(*ring)

    def test_a_land_of_two_parts(self):
        self.assert_no_land(box(0, 0, 1, 1), box(2, 0, 3, 1))
        self.assert_no_land(box(0, 0, 1, 1), box(1, 0, 2, 1), box(5, 0, 6, 1))

    def test_a_face_within_another(self):
        self.assert_no_land(box(0, 0, 9, 9), box(1, 1, 2, 2))

    def test_faces_over_one_another(self):
        self.assert_no_land(box(0, 0, 2, 2), box(1, 1, 3, 3))

    def test_a_land_that_touches_itself_at_a_spot(self):
        self.assert_no_land(box(0, 0, 1, 1), box(1, 1, 2, 2))
        # In one piece, but round a hole that reaches the edge at one corner.
        self.assert_no_land(
            loop((0, 0), (2, 0), (2, 1), (1, 1), (0, 1)), loop((0, 1), (1, 1), (1, 2), (0, 2)),
            loop((0, 2), (1, 2), (2, 2), (2, 3), (0, 3)), loop((2, 1), (2, 0), (4, 0), (4, 3), (2, 3), (2, 2)),
        )

    def test_one_border_that_is_not_simple(self):
        # A bent land whose upper end comes down to touch its lower one amid
        # a side, to lie upon it, or to go across it.
        low = loop((0, 0), (4, 0), (4, 1), (1, 1), (0, 1))
        left = loop((0, 1), (1, 1), (1, 3), (0, 3))
        for tip in (loop((3, 1)), loop((2, 1), (3, 1)), loop((3, -1)), loop((1, 1, 2))):
            self.assert_no_land(low, left, loop((0, 3), (1, 3)) + tip + loop((4, 4), (0, 4)))
        Sheet("soil", faces_of(low, left, loop((0, 3), (1, 3), (3, 2), (4, 4), (0, 4))))

    def test_sides_that_are_not_alike_whole(self):
        # The upper face has one side where the lower ones have two.
        self.assert_no_land(box(0, 0, 1, 1), box(1, 0, 2, 1), box(0, 1, 2, 2))

    def test_every_refusal_is_a_sheet_error(self):
        for faces in (faces_of(BOW), faces_of(box(0, 0, 1, 1), box(0, 0, 1, 1)), faces_of(box(0, 0, 1, 1), box(5, 0, 6, 1))):
            with self.assertRaises(SheetError):
                Sheet("soil", faces)


class BorderAndLand(unittest.TestCase):
    def test_of_one_face(self):
        for some in rotations(box(0, 0, 2, 2)):
            sheet = Sheet("soil", faces_of(some))
            self.assertEqual(sheet.border(), box(0, 0, 2, 2))
            self.assertEqual(sheet.land(), box(0, 0, 2, 2))

    def test_of_several_faces_in_any_order(self):
        expected = loop((0, 0), (2, 0), (4, 0), (4, 2), (4, 4), (2, 4), (0, 4), (0, 2))
        for faces in itertools.permutations(QUARTERS):
            sheet = Sheet("soil", list(faces))
            self.assertEqual(sheet.border(), expected)
            self.assertEqual(sheet.land(), box(0, 0, 4, 4))

    def test_from_any_spot_on(self):
        for told in itertools.product(*[rotations(some) for word, mark, some in FRAMED]):
            sheet = Sheet("soil", faces_of(*told))
            self.assertEqual(sheet.border(), box(0, 0, 3, 3))
            self.assertEqual(sheet.land(), box(0, 0, 3, 3))

    def test_straight_spots_one_behind_another(self):
        some = loop((1, 0), (2, 0), (3, 0), (3, 3), (2, 2), (1, 1), (0, 0))
        sheet = Sheet("soil", faces_of(some))
        self.assertEqual(sheet.border(), some[-1:] + some[:-1])
        self.assertEqual(sheet.land(), loop((0, 0), (3, 0), (3, 3)))

    def test_straight_spots_by_the_first_corner(self):
        some = loop((0, 1), (0, 0), (4, -1), (4, 5), (0, 4))
        slanted = loop((1, -1), (5, -5), (5, 5), (1, 1), (0, 0))
        for told in rotations(some):
            self.assertEqual(Sheet("soil", faces_of(told)).border(), loop((0, 0), (4, -1), (4, 5), (0, 4), (0, 1)))
            self.assertEqual(Sheet("soil", faces_of(told)).land(), loop((0, 0), (4, -1), (4, 5), (0, 4)))
        for told in rotations(slanted):
            self.assertEqual(Sheet("soil", faces_of(told)).land(), loop((0, 0), (5, -5), (5, 5)))

    def test_reflex_corners_of_the_land_stay(self):
        some = loop((0, 0), (4, 0), (4, 4), (2, 1), (0, 4))
        self.assertEqual(Sheet("soil", faces_of(some)).land(), some)

    def test_broken_places(self):
        some = loop((0, 0), (1, 1, 3), (2, 2, 3), (1, 1), (0, 1), (0, 1, 2))
        sheet = Sheet("soil", faces_of(some))
        self.assertEqual(sheet.border(), some)
        self.assertEqual(sheet.land(), loop((0, 0), (1, 1), (0, 1)))

    def test_two_sheets_of_one_land_with_unlike_straight_spots(self):
        one = Sheet("soil", QUARTERS)
        other = Sheet("use", faces_of(loop((0, 0), (4, 0), (4, 3), (0, 1)), loop((4, 3), (4, 4), (0, 4), (0, 1))))
        self.assertNotEqual(one.border(), other.border())
        self.assertEqual(one.land(), other.land())
        self.assertNotEqual(one.land(), Sheet("far", faces_of(box(0, 0, 4, 5))).land())

    def test_the_faces_fill_the_border(self):
        for faces in (QUARTERS, FRAMED):
            sheet = Sheet("soil", faces)
            total = sum(fraction(area(some)) for word, mark, some in faces)
            self.assertEqual(area_by_places(sheet.border()), total)
            self.assertEqual(area_by_places(sheet.land()), total)


class Told(unittest.TestCase):
    def test_each_face(self):
        sheet = Sheet("soil", QUARTERS)
        for told in QUARTERS:
            self.assertEqual(sheet.told(told[0]), told)
            self.assertIs(type(sheet.told(told[0])), tuple)

    def test_no_such_face(self):
        for word in ("soil", "wood", "s", "swx", "SW"):
            with self.assertRaises(NoName) as told:
                Sheet("soil", QUARTERS).told(word)
            self.assertEqual(told.exception.name, word)


class FacesAt(unittest.TestCase):
    def assert_at(self, faces, p, expected):
        told = Sheet("soil", faces).faces_at(p)
        self.assertIs(type(told), list)
        self.assertEqual(told, expected)

    def test_within_a_face(self):
        self.assert_at(QUARTERS, spot(1, 1), ["sw"])
        self.assert_at(QUARTERS, spot(7, 5, 2), ["ne"])
        self.assert_at(FRAMED, spot(3, 3, 2), ["hill"])

    def test_amid_a_side(self):
        self.assert_at(QUARTERS, spot(2, 1), ["sw", "se"])
        self.assert_at(QUARTERS, spot(1, 2), ["sw", "nw"])
        self.assert_at(FRAMED, spot(5, 1, 2), ["left", "right"])
        self.assert_at(FRAMED, spot(3, 2, 2), ["hill", "left"])

    def test_amid_a_side_of_the_border(self):
        self.assert_at(QUARTERS, spot(1, 0), ["sw"])
        self.assert_at(QUARTERS, spot(8, 7, 2), ["ne"])

    def test_at_corners(self):
        self.assert_at(QUARTERS, spot(2, 2), ["sw", "se", "ne", "nw"])
        self.assert_at(QUARTERS[::-1], spot(2, 2), ["nw", "ne", "se", "sw"])
        self.assert_at(QUARTERS, spot(4, 2), ["se", "ne"])
        self.assert_at(QUARTERS, spot(0, 4), ["nw"])
        self.assert_at(FRAMED, spot(2, 1), ["hill", "left", "right"])

    def test_outside(self):
        for p in (spot(5, 1), spot(-1, 2), spot(2, 5), spot(2, -1), spot(-1, 0, GREAT), spot(4 * GREAT + 1, 2, GREAT)):
            self.assert_at(QUARTERS, p, [])

    def test_everywhere(self):
        for faces in (QUARTERS, FRAMED):
            sheet = Sheet("soil", faces)
            for x in range(-1, 18):
                for y in range(-1, 18):
                    p = spot(x, y, 4)
                    expected = [word for word, mark, some in faces if where_by_places(some, p) >= 0]
                    self.assertEqual(sheet.faces_at(p), expected)

    def test_a_new_list_each_time(self):
        sheet = Sheet("soil", QUARTERS)
        sheet.faces_at(spot(2, 2)).clear()
        self.assertEqual(sheet.faces_at(spot(2, 2)), ["sw", "se", "ne", "nw"])


if __name__ == "__main__":
    unittest.main()
