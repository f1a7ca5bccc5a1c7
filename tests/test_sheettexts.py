"""Sheets' texts, written and read."""

import unittest

from examples import box, chance_pile, loop
from sheetlay.errors import BadFace, NoLand, NoText, Twice
from sheetlay.sheets import Sheet
from sheetlay.sheettexts import read_sheet, sheet_text
from sheetlay.spots import spot

GREAT = 10 ** 30

HALVES = Sheet("soil", [
    ("west", "wood", loop((0, 0), (1, 0, 2), (3, 4, 2), (0, 1))),
    ("east", "lake", loop((1, 0, 2), (-7, -1, -1), (3, 4, 2))),
])
HALVES_TEXT = "sheet soil\nface west wood 0,0 1/2,0 3/2,2 0,1\nface east lake 1/2,0 7,1 3/2,2"
BELOW = Sheet("low", [("a", "b", loop((-2, -2), (-1, -7, 3), (0, 0)))])
BELOW_TEXT = "sheet low\nface a b -2,-2 -1/3,-7/3 0,0"
FACE = "face a b 0,0 1,0 0,1"


def strip(k, word):
    return f"face {word} m {k},0 {k + 1},0 {k + 1},1 {k},1"


def strips(count):
    return "\n".join(["sheet s"] + [strip(k, "abcdefghijklmn"[k]) for k in range(count)])


def comb(count):
    # A loop of so many spots.
    return loop((0, 0), (100, 0), *[(100 - k, 1 + k % 2) for k in range(count - 2)])


class Written(unittest.TestCase):
    def test_rows_words_and_numbers(self):
        self.assertEqual(sheet_text(HALVES), HALVES_TEXT)
        self.assertEqual(sheet_text(BELOW), BELOW_TEXT)

    def test_the_loop_as_the_sheet_has_it(self):
        sheet = Sheet("s", [("a", "b", loop((1, 1), (0, 1), (1, 0)))])
        self.assertEqual(sheet_text(sheet), "sheet s\nface a b 1,1 0,1 1,0")

    def test_each_place_has_its_own_lowest_form(self):
        sheet = Sheet("s", [("a", "b", loop((1, 3, 6), (2, 2, 6), (5, 0, 6)))])
        self.assertEqual(sheet_text(sheet), "sheet s\nface a b 1/6,1/2 1/3,1/3 5/6,0")

    def test_the_sheet_stays(self):
        before = list(HALVES.faces)
        sheet_text(HALVES)
        self.assertEqual(HALVES.faces, before)


class ReadBack(unittest.TestCase):
    def assert_read(self, sheet):
        told = read_sheet(sheet_text(sheet))
        self.assertIsInstance(told, Sheet)
        self.assertIsNot(told, sheet)
        self.assertEqual((told.name, told.faces), (sheet.name, sheet.faces))

    def test_plain_ones(self):
        self.assert_read(HALVES)
        self.assert_read(BELOW)
        self.assertEqual(read_sheet(HALVES_TEXT).faces, HALVES.faces)
        self.assertEqual(read_sheet(BELOW_TEXT).faces, BELOW.faces)

    def test_ones_by_chance(self):
        for seed in range(10):
            for sheet in chance_pile(seed, box(-7, -5, 20, 20), [7, 3]):
                self.assert_read(sheet)

    def test_the_longest_words_and_loops_and_greatest_numbers(self):
        self.assert_read(Sheet("abcdefgh", [("ijklmnop", "qrstuvwx", comb(24))]))
        self.assert_read(Sheet("s", [("yz", "z", loop((-999999, -999999), (999999, 999998), (1, 1, 999999)))]))
        self.assertEqual(len(read_sheet(strips(12)).faces), 12)

    def test_a_new_sheet_each_time(self):
        one, other = read_sheet(HALVES_TEXT), read_sheet(HALVES_TEXT)
        one.faces.clear()
        self.assertEqual(other.faces, HALVES.faces)

    def test_the_program_s_own_words_as_names(self):
        self.assert_read(Sheet("sheet", [("face", "sheet", box(0, 0, 1, 1))]))


class Refused(unittest.TestCase):
    def assert_wrong(self, line, text):
        with self.assertRaises(NoText, msg=text) as told:
            read_sheet(text)
        self.assertEqual(told.exception.line, line, text)

    def assert_wrong_row(self, row):
        # As the second row, as the third, and ahead of and behind another.
        self.assert_wrong(2, "sheet s\n" + row)
        self.assert_wrong(3, "sheet s\n" + FACE + "\n" + row)
        self.assert_wrong(2, "sheet s\n" + row + "\n" + FACE)
        self.assert_wrong(3, "sheet s\n" + FACE + "\n" + row + "\n" + row + "\nx")
        self.assert_wrong(1, "sheet\n" + row)
        # The form comes ahead of what the sheet is refused with.
        self.assert_wrong(4, "sheet s\n" + FACE + "\n" + FACE + "\n" + row)

    def test_the_first_row(self):
        for row in (
            "", "sheet", "sheet ", " sheet s", "sheet  s", "sheet s ", "sheet s t", "Sheet s", "sheet S", "sheet s1",
            "sheet abcdefghi", "sheet\ts", "sheets", "sheets s", "s", "face s", FACE, "sheet s\r", "sheet \u00e4", "sheet s_t",
        ):
            self.assert_wrong(1, row)
            self.assert_wrong(1, row + "\n" + FACE)

    def test_an_empty_text(self):
        self.assert_wrong(1, "")
        self.assert_wrong(1, "\n")
        self.assert_wrong(1, "\nsheet s\n" + FACE)

    def test_no_face(self):
        self.assert_wrong(2, "sheet s")
        self.assert_wrong(2, "sheet s\n")
        self.assert_wrong(2, "sheet s\n\n" + FACE)

    def test_a_line_feed_behind_the_last_row(self):
        self.assert_wrong(3, "sheet s\n" + FACE + "\n")
        self.assert_wrong(4, HALVES_TEXT + "\n")
        self.assert_wrong(4, HALVES_TEXT + "\n\n")
        self.assert_wrong(14, strips(12) + "\n")

    def test_words(self):
        for word in ("", "abcdefghi", "A", "aB", "a1", "a-b", "a.b", "\u00e4", "\u00df", "1"):
            self.assert_wrong_row(f"face {word} b 0,0 1,0 0,1")
            self.assert_wrong_row(f"face a {word} 0,0 1,0 0,1")
        for word in ("", "Face", "faces", "sheet", "fac", "a"):
            self.assert_wrong_row(f"{word} a b 0,0 1,0 0,1")

    def test_a_word_too_few_or_too_many(self):
        for row in ("", " ", "face", "face a", "face a b", "a b 0,0 1,0 0,1", "face a 0,0 1,0 0,1", "face a 0,0 1,0 0,1 1,1",
                    "face a b c 0,0 1,0 0,1", "face a b 0,0 1,0 0,1 c", "sheet s"):
            self.assert_wrong_row(row)

    def test_blanks(self):
        for row in (
            "face  a b 0,0 1,0 0,1", "face a  b 0,0 1,0 0,1", "face a b  0,0 1,0 0,1", "face a b 0,0  1,0 0,1",
            " face a b 0,0 1,0 0,1", "face a b 0,0 1,0 0,1 ", "face a b 0,0 1,0 0,1\r", "face\ta b 0,0 1,0 0,1",
            "face a b 0,0\t1,0 0,1", "face a b 0,0 1,0 0,1  ", "face a b 0, 0 1,0 0,1", "face a b 0 ,0 1,0 0,1",
        ):
            self.assert_wrong_row(row)

    def test_numbers(self):
        for text in (
            "01", "00", "-01", "+1", "-0", "5/1", "0/1", "0/3", "2/4", "-2/4", "1/0", "1/-2", "1/02", "1/", "/2", "", "-",
            "1/2/3", "x", "1.0", "1e1", "1000000", "-1000000", "1/1000000", "1234567/2", "\u0661", "1_0", "1/+2",
        ):
            self.assert_wrong_row(f"face a b {text},0 9,0 9,9")
            self.assert_wrong_row(f"face a b 0,{text} 9,0 9,9")
            self.assert_wrong_row(f"face a b 0,0 9,0 9,{text}")

    def test_spots(self):
        for text in ("0", "0,0,0", ",", "0;0", "0,", ",0", "(0,0)"):
            self.assert_wrong_row(f"face a b {text} 9,0 9,9")
            self.assert_wrong_row(f"face a b 9,0 9,9 {text}")

    def test_too_few_or_too_many_spots(self):
        self.assert_wrong_row("face a b 0,0 1,0")
        self.assert_wrong_row("face a b 0,0")
        text = sheet_text(Sheet("s", [("x", "y", comb(25))]))
        self.assert_wrong_row(text.split("\n")[1])

    def test_a_thirteenth_face(self):
        self.assert_wrong(14, strips(13))
        self.assert_wrong(14, strips(14))
        self.assert_wrong(14, strips(12) + "\nx")
        self.assert_wrong(3, strips(13).replace("face b", "face B"))
        self.assert_wrong(13, strips(13).replace("face l", "face L"))

    def test_then_the_sheet_is_refused(self):
        with self.assertRaises(BadFace) as told:
            read_sheet("sheet s\n" + FACE + "\nface c b 0,0 1,1 1,0")
        self.assertEqual(told.exception.face, "c")
        with self.assertRaises(BadFace) as told:
            read_sheet("sheet s\n" + FACE + "\n" + FACE)
        self.assertEqual(told.exception.face, "a")
        with self.assertRaises(BadFace):
            read_sheet("sheet s\nface a b 0,0 0,0 1,1")
        with self.assertRaises(Twice) as told:
            read_sheet("sheet s\n" + FACE + "\nface c b 0,0 1,0 0,2")
        self.assertEqual((told.exception.one, told.exception.other), ("a", "c"))
        with self.assertRaises(NoLand):
            read_sheet("sheet s\n" + FACE + "\nface c b 5,0 6,0 5,1")


class WrittenButNotRead(unittest.TestCase):
    def assert_not_read(self, faces, line):
        text = sheet_text(Sheet("s", faces))
        with self.assertRaises(NoText) as told:
            read_sheet(text)
        self.assertEqual(told.exception.line, line)
        return text

    def test_greater_numbers(self):
        text = self.assert_not_read([("a", "b", loop((0, 0), (GREAT, 0), (0, GREAT)))], 2)
        self.assertEqual(text, f"sheet s\nface a b 0,0 {GREAT},0 0,{GREAT}")
        text = self.assert_not_read([
            ("a", "b", loop((0, 0), (1, 0), (0, 1))), ("c", "d", (spot(0, 1), spot(1, 0), spot(GREAT, GREAT, GREAT - 1))),
        ], 3)
        self.assertTrue(text.endswith(f"face c d 0,1 1,0 {GREAT}/{GREAT - 1},{GREAT}/{GREAT - 1}"))

    def test_longer_loops(self):
        text = self.assert_not_read([("a", "b", comb(25))], 2)
        self.assertEqual(len(text.split(" ")), 29)

    def test_more_faces(self):
        faces = [(word, "m", box(k, 0, k + 1, 1)) for k, word in enumerate("abcdefghijklm")]
        self.assertEqual(self.assert_not_read(faces, 14), strips(13))


if __name__ == "__main__":
    unittest.main()
