"""Marks of a lay's faces, and areas summed by marks."""

import itertools
import unittest

from by_fractions import area_by_places, fraction
from examples import box, chance_pile, loop
from sheetlay.lays import Lay
from sheetlay.sheets import Sheet
from sheetlay.sums import face_area, marks_of, sheet_summed, summed

GREAT = 10 ** 30

SOIL = Sheet("soil", [("west", "wood", box(0, 0, 1, 4)), ("mid", "lake", box(1, 0, 3, 4)), ("east", "wood", box(3, 0, 4, 4))])
USE = Sheet("use", [("north", "town", box(0, 1, 4, 4)), ("south", "farm", box(0, 0, 4, 1))])
RAIN = Sheet("rain", [("much", "wet", loop((4, 4), (0, 4), (0, 0))), ("little", "dry", loop((0, 0), (4, 0), (4, 4)))])
LAY = Lay([SOIL, USE])
BOTH = Lay([USE, SOIL, RAIN])
LAND = box(0, 0, 12, 10)


def summed_by_places(lay, names):
    sums = {}
    for some, row in lay.faces:
        marks = {}
        for sheet, word in zip(lay.sheets, row):
            marks[sheet.name] = [mark for face, mark, own in sheet.faces if face == word][0]
        key = tuple(marks[name] for name in names)
        sums[key] = sums.get(key, 0) + area_by_places(some)
    return sorted(sums.items())


class Marks(unittest.TestCase):
    def test_each_face(self):
        self.assertEqual([row for some, row in LAY.faces], [
            ("west", "south"), ("west", "north"), ("mid", "south"), ("mid", "north"), ("east", "south"), ("east", "north"),
        ])
        self.assertEqual([marks_of(LAY, n) for n in range(6)], [
            {"soil": "wood", "use": "farm"}, {"soil": "wood", "use": "town"}, {"soil": "lake", "use": "farm"},
            {"soil": "lake", "use": "town"}, {"soil": "wood", "use": "farm"}, {"soil": "wood", "use": "town"},
        ])

    def test_one_sheet(self):
        self.assertEqual([marks_of(Lay([RAIN]), n) for n in (0, 1)], [{"rain": "dry"}, {"rain": "wet"}])

    def test_a_word_in_two_sheets_has_the_mark_of_each(self):
        one = Sheet("one", [("a", "x", box(0, 0, 1, 2)), ("b", "y", box(1, 0, 2, 2))])
        other = Sheet("other", [("a", "z", box(1, 0, 2, 2)), ("b", "w", box(0, 0, 1, 2))])
        lay = Lay([one, other])
        self.assertEqual([marks_of(lay, n) for n in (0, 1)], [{"one": "x", "other": "w"}, {"one": "y", "other": "z"}])

    def test_a_new_dict_each_time(self):
        marks = marks_of(LAY, 0)
        self.assertIs(type(marks), dict)
        marks["soil"] = "sand"
        marks.pop("use")
        self.assertEqual(marks_of(LAY, 0), {"soil": "wood", "use": "farm"})


class Areas(unittest.TestCase):
    def test_of_a_face(self):
        self.assertEqual([face_area(LAY, n) for n in range(6)], [(1, 1), (3, 1), (2, 1), (6, 1), (1, 1), (3, 1)])

    def test_broken(self):
        lay = Lay([RAIN, Sheet("s", [("a", "b", loop((0, 4), (0, 0), (4, 0))), ("c", "d", loop((4, 0), (4, 4), (0, 4)))])])
        self.assertEqual([face_area(lay, n) for n in range(4)], [(4, 1)] * 4)
        corner = Sheet("s", [("a", "b", loop((0, 0), (1, 0), (0, 4))), ("c", "d", loop((1, 0), (4, 0), (4, 4), (0, 4)))])
        self.assertEqual([face_area(Lay([RAIN, corner]), n) for n in (0, 1)], [(8, 5), (2, 5)])

    def test_by_chance(self):
        for seed in range(6):
            lay = Lay(chance_pile(seed, LAND, (4, 4)))
            for n in range(len(lay.faces)):
                self.assertEqual(face_area(lay, n), area_by_places(lay.faces[n][0]).as_integer_ratio())


class Summed(unittest.TestCase):
    def test_by_no_names(self):
        self.assertEqual(summed(LAY, []), [((), (16, 1))])
        self.assertEqual(summed(BOTH, []), [((), (16, 1))])

    def test_by_one_name(self):
        self.assertEqual(summed(LAY, ["soil"]), [(("lake",), (8, 1)), (("wood",), (8, 1))])
        self.assertEqual(summed(LAY, ["use"]), [(("farm",), (4, 1)), (("town",), (12, 1))])
        self.assertEqual(summed(BOTH, ["rain"]), [(("dry",), (8, 1)), (("wet",), (8, 1))])

    def test_by_all_names_in_the_order_told(self):
        self.assertEqual(summed(LAY, ["soil", "use"]), [
            (("lake", "farm"), (2, 1)), (("lake", "town"), (6, 1)), (("wood", "farm"), (2, 1)), (("wood", "town"), (6, 1)),
        ])
        self.assertEqual(summed(LAY, ["use", "soil"]), [
            (("farm", "lake"), (2, 1)), (("farm", "wood"), (2, 1)), (("town", "lake"), (6, 1)), (("town", "wood"), (6, 1)),
        ])

    def test_by_several_names(self):
        self.assertEqual(summed(BOTH, ["rain", "use"]), [
            (("dry", "farm"), (7, 2)), (("dry", "town"), (9, 2)), (("wet", "farm"), (1, 2)), (("wet", "town"), (15, 2)),
        ])

    def test_marks_that_no_face_has_do_not_stand_there(self):
        rest = loop((1, 0), (4, 0), (4, 4), (0, 4), (0, 1), (1, 1))
        corner = Sheet("corner", [("a", "in", box(0, 0, 1, 1)), ("b", "out", rest)])
        # The box in the corner touches the lake along a side alone.
        self.assertEqual(summed(Lay([SOIL, corner]), ["corner", "soil"]), [
            (("in", "wood"), (1, 1)), (("out", "lake"), (8, 1)), (("out", "wood"), (7, 1)),
        ])

    def test_sorted_by_the_texts(self):
        strips = [("a", "bb"), ("b", "b"), ("c", "ba"), ("d", "a"), ("e", "z"), ("f", "bb")]
        sheet = Sheet("s", [(word, mark, box(k, 0, k + 1, 1)) for k, (word, mark) in enumerate(strips)])
        self.assertEqual(sheet_summed(sheet), [("a", (1, 1)), ("b", (1, 1)), ("ba", (1, 1)), ("bb", (2, 1)), ("z", (1, 1))])
        self.assertEqual(summed(Lay([sheet]), ["s"]), [((mark,), area) for mark, area in sheet_summed(sheet)])

    def test_by_chance(self):
        for seed in range(12):
            sheets = chance_pile(seed, LAND, [(5, 5), (4, 4, 3), (3, 3, 3, 3)][seed % 3])
            lay = Lay(sheets)
            names = [sheet.name for sheet in sheets]
            for count in range(len(names) + 1):
                for some in itertools.permutations(names, count):
                    told = summed(lay, list(some))
                    self.assertEqual([(marks, fraction(area)) for marks, area in told], summed_by_places(lay, some))

    def test_each_sheet_has_its_own_areas(self):
        for seed in range(12):
            sheets = chance_pile(seed, LAND, (5, 4, 3))
            lay = Lay(sheets)
            for sheet in sheets:
                expected = [((mark,), area) for mark, area in sheet_summed(sheet)]
                self.assertEqual(summed(lay, [sheet.name]), expected)

    def test_great_numbers(self):
        low, high = loop((-GREAT, -GREAT), (GREAT, -GREAT), (GREAT, 1)), loop((GREAT, 1), (-GREAT, GREAT), (-GREAT, -GREAT))
        one = Sheet("one", [("a", "x", low), ("b", "y", high)])
        other = Sheet("other", [
            ("a", "z", loop((-GREAT, -GREAT), (GREAT, -GREAT), (0, GREAT + 1, 2))),
            ("b", "w", loop((GREAT, -GREAT), (GREAT, 1), (0, GREAT + 1, 2))),
            ("c", "z", loop((0, GREAT + 1, 2), (-GREAT, GREAT), (-GREAT, -GREAT))),
        ])
        lay = Lay([one, other])
        told = summed(lay, ["other", "one"])
        self.assertEqual([(marks, fraction(area)) for marks, area in told], summed_by_places(lay, ["other", "one"]))
        self.assertEqual(summed(lay, ["one"]), [((mark,), area) for mark, area in sheet_summed(one)])
        self.assertEqual(summed(lay, ["other"]), [((mark,), area) for mark, area in sheet_summed(other)])

    def test_kinds_and_what_is_handed_in(self):
        names = ["use", "soil"]
        told = summed(LAY, names)
        self.assertEqual(names, ["use", "soil"])
        self.assertEqual((type(told), type(told[0]), type(told[0][0]), type(told[0][1])), (list, tuple, tuple, tuple))
        told.clear()
        self.assertEqual(len(summed(LAY, names)), 4)


class SheetSummed(unittest.TestCase):
    def test_each_mark_once(self):
        self.assertEqual(sheet_summed(SOIL), [("lake", (8, 1)), ("wood", (8, 1))])
        self.assertEqual(sheet_summed(USE), [("farm", (4, 1)), ("town", (12, 1))])

    def test_broken(self):
        thirds = Sheet("s", [("a", "m", loop((0, 0), (1, 0, 3), (0, 1))), ("b", "n", loop((1, 0, 3), (1, 0), (0, 1)))])
        self.assertEqual(sheet_summed(thirds), [("m", (1, 6)), ("n", (1, 3))])
        alike = Sheet("s", [(word, "m", some) for word, mark, some in thirds.faces])
        self.assertEqual(sheet_summed(alike), [("m", (1, 2))])

    def test_a_new_list_of_tuples_each_time(self):
        told = sheet_summed(SOIL)
        self.assertEqual((type(told), type(told[0])), (list, tuple))
        told.clear()
        self.assertEqual(len(sheet_summed(SOIL)), 2)

    def test_the_lay_and_the_sheet_stay(self):
        before = (list(BOTH.sheets), list(BOTH.pieces), list(BOTH.faces), list(SOIL.faces))
        summed(BOTH, ["rain", "soil"])
        marks_of(BOTH, 0)
        face_area(BOTH, 0)
        sheet_summed(SOIL)
        self.assertEqual((BOTH.sheets, BOTH.pieces, BOTH.faces, SOIL.faces), before)


if __name__ == "__main__":
    unittest.main()
