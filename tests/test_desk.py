"""The desk: its rows, its answers and its refusals."""

import itertools
import unittest

from examples import box, chance_pile, loop
from sheetlay.books import land_worth
from sheetlay.desk import Desk
from sheetlay.errors import BadFace, NoJoin, NoLand, NoName, NoPath, NoPile, NoRow, NoRule, NoText, SheetError, Twice
from sheetlay.kept import Kept
from sheetlay.lays import Lay
from sheetlay.melting import keys_by, patches
from sheetlay.numbers import number_text
from sheetlay.plainer import plainer
from sheetlay.rules import read_book
from sheetlay.sheets import Sheet
from sheetlay.sheettexts import sheet_text
from sheetlay.sums import summed
from sheetlay.within import spot_in
from sheetlay.words import spot_text

SOIL = "sheet soil|face west wood 0,0 2,0 2,4 0,4|face east lake 2,0 4,0 4,4 2,4"
USE = "sheet use|face north farm 0,1 4,1 4,4 0,4|face south town 0,0 4,0 4,1 0,1"
BENT = "sheet bent|face low a 0,0 4,0 4,2 2,3 0,2|face high b 0,2 2,3 4,2 4,4 0,4"
WIDE = "sheet wide|face all m 0,0 5,0 5,4 0,4"


def desk_with(*texts):
    desk = Desk()
    for text in texts:
        if desk.say("keep " + text) != "ok":
            raise ValueError(text)
    return desk


NAMES = ["soil", "use", "bent", "rain", "owner", "wide", "other"]


def all_told(desk):
    # Whatever a desk tells of what it keeps.
    told = []
    for name in NAMES:
        try:
            told.append(desk.say("show " + name))
        except NoName:
            continue
    if not told:
        return []
    names = [text.split("|")[0].split(" ")[1] for text in told]
    rows = ["lay", "areas " + " ".join(names), "patches " + " ".join(names), "worth any : 1", "at 1,1/2", "at 3,3"]
    return told + [desk.say(row) for row in rows]


class Rows(unittest.TestCase):
    def assert_refused(self, error, desk, row):
        before = all_told(desk)
        with self.assertRaises(error, msg=repr(row)) as told:
            desk.say(row)
        self.assertIs(type(told.exception), error, repr(row))
        self.assertEqual(all_told(desk), before)
        return told.exception

    def assert_no_row(self, desk, *rows):
        for row in rows:
            self.assert_refused(NoRow, desk, row)

    def assert_no_name(self, name, desk, row):
        self.assertEqual(self.assert_refused(NoName, desk, row).name, name)


class Keep(Rows):
    def test_ok(self):
        desk = Desk()
        self.assertEqual(desk.say("keep " + SOIL), "ok")
        self.assertEqual(desk.say("keep " + USE), "ok")
        self.assertEqual(desk.say("show soil"), SOIL)
        self.assertEqual(desk.say("show use"), USE)
        self.assertEqual(desk.say("lay"), "4")

    def test_a_name_that_is_kept_at_its_place(self):
        desk = desk_with(SOIL, USE, BENT)
        anew = "sheet soil|face all moor 0,0 4,0 4,4 0,4"
        self.assertEqual(desk.say("keep " + anew), "ok")
        self.assertEqual(desk.say("show soil"), anew)
        # The row of a face tells in which order they are kept.
        self.assertEqual(desk.say("at 1,1/2"), "all south low")
        desk.say("keep " + USE.replace("south", "below"))
        self.assertEqual(desk.say("at 1,1/2"), "all below low")

    def test_no_text(self):
        desk = desk_with(SOIL)
        for text, line in (
            ("", 1), (" ", 1), ("sheet", 1), ("sheet use", 2), ("sheet use|", 2), ("sheet use|face a b 0,0 4,0 4,4|", 3),
            ("sheet Use|face a b 0,0 4,0 4,4 0,4", 1), ("sheet use |face a b 0,0 4,0 4,4 0,4", 1), (" sheet use|face a b 0,0 4,0 4,4 0,4", 1),
            ("sheet use|face a b 0,0 4,0", 2), ("sheet use|face a b 0,0 4,0 04,4 0,4", 2), ("sheet use|face a b 0,0 4,0 4,4 0,4 ", 2),
            ("sheet use||face a b 0,0 4,0 4,4 0,4", 2), ("face a b 0,0 4,0 4,4 0,4", 1), ("sheet use|face a b 0,0 4,0 4,4 0,4|face", 3),
        ):
            self.assertEqual(self.assert_refused(NoText, desk, "keep " + text).line, line, text)
            self.assertEqual(self.assert_refused(NoText, Desk(), "keep " + text).line, line, text)

    def test_a_line_feed_is_no_row_s_end(self):
        for text, line in ((SOIL.replace("|", "\n"), 1), (SOIL.replace("|face east", "\nface east"), 2), (SOIL + "\n", 3)):
            self.assertEqual(self.assert_refused(NoText, Desk(), "keep " + text).line, line)

    def test_what_is_no_sheet(self):
        desk = desk_with(SOIL)
        told = self.assert_refused(BadFace, desk, "keep sheet use|face a b 0,0 4,4 4,0 0,4")
        self.assertEqual(told.face, "a")
        told = self.assert_refused(BadFace, desk, "keep sheet soil|face a b 0,0 2,0 2,4 0,4|face a b 2,0 4,0 4,4 2,4")
        self.assertEqual(told.face, "a")
        told = self.assert_refused(Twice, desk, "keep sheet use|face a b 0,0 2,0 2,4 0,4|face c b 0,0 2,0 1,1")
        self.assertEqual((told.one, told.other), ("a", "c"))
        self.assert_refused(NoLand, desk, "keep sheet use|face a b 0,0 1,0 1,1 0,1|face c b 2,0 3,0 3,1 2,1")

    def test_no_pile_with_the_numbers_as_they_would_be_kept(self):
        for texts, text, one, other in (
            ([SOIL], WIDE, 0, 1), ([SOIL, USE], WIDE, 0, 2), ([SOIL, USE], WIDE.replace("wide", "soil"), 0, 1),
            ([SOIL, USE], WIDE.replace("wide", "use"), 0, 1), ([SOIL, USE, BENT], WIDE.replace("wide", "bent"), 0, 2),
            ([SOIL, USE, BENT], WIDE.replace("wide", "use"), 0, 1), ([SOIL, USE, BENT], WIDE, 0, 3),
        ):
            told = self.assert_refused(NoPile, desk_with(*texts), "keep " + text)
            self.assertEqual((told.one, told.other), (one, other))

    def test_the_sheet_ahead_of_the_pile(self):
        desk = desk_with(SOIL)
        self.assert_refused(BadFace, desk, "keep sheet wide|face all m 0,0 5,0 5,4 0,4|face all m 5,0 6,0 6,4 5,4")
        self.assertEqual(self.assert_refused(NoText, desk, "keep " + WIDE + "|").line, 3)

    def test_one_sheet_alone_kept_anew_with_another_land(self):
        desk = desk_with(SOIL)
        self.assertEqual(desk.say("keep " + WIDE.replace("wide", "soil")), "ok")
        self.assertEqual(desk.say("areas soil"), "m 20")
        self.assert_refused(NoPile, desk, "keep " + USE)
        self.assertEqual(desk.say("keep " + WIDE), "ok")

    def test_the_blank_always_stands(self):
        for desk in (Desk(), desk_with(SOIL)):
            self.assert_no_row(desk, "keep", "keep" + SOIL, "keep|" + SOIL, "Keep " + SOIL, " keep " + SOIL)

    def test_names_within_are_no_names_of_sheets(self):
        self.assertEqual(Desk().say("keep " + WIDE), "ok")


class DropAndShow(Rows):
    def test_drop(self):
        desk = desk_with(SOIL, USE)
        self.assertEqual(desk.say("drop soil"), "ok")
        self.assert_no_name("soil", desk, "show soil")
        self.assertEqual(desk.say("show use"), USE)
        self.assertEqual(desk.say("at 1,1/2"), "south")
        self.assertEqual(desk.say("drop use"), "ok")
        self.assert_no_row(desk, "lay")

    def test_drop_and_keep_again(self):
        desk = desk_with(SOIL, USE)
        desk.say("drop soil")
        desk.say("keep " + SOIL)
        self.assertEqual(desk.say("at 1,1/2"), "south west")
        desk.say("drop soil")
        desk.say("drop use")
        self.assertEqual(desk.say("keep " + WIDE), "ok")
        self.assertEqual(desk.say("lay"), "1")

    def test_no_name(self):
        for row in ("drop", "show"):
            self.assert_no_name("use", desk_with(SOIL), row + " use")
            self.assert_no_name("west", desk_with(SOIL), row + " west")
            self.assert_no_name("soil", Desk(), row + " soil")

    def test_no_row(self):
        for row in ("drop", "show"):
            desk = desk_with(SOIL)
            self.assert_no_row(desk, row, row + " ", row + " soil ", row + "  soil", " " + row + " soil", row + " soil soil", row + " Soil",
                               row + " soil|", row + " soilsoils", row + " s0il", row + "\tsoil", row + " soil\n", row.upper() + " soil",
                               row + "soil", row + " soil,use")

    def test_show_after_changes(self):
        desk = desk_with(SOIL)
        desk.say("split soil west new moor 0,0 1/2,3 2,4")
        self.assertEqual(desk.say("show soil"), "sheet soil|face west wood 0,0 1/2,3 2,4 0,4|face east lake 2,0 4,0 4,4 2,4"
                                                "|face new moor 2,4 1/2,3 0,0 2,0")
        other = Desk()
        self.assertEqual(other.say("keep " + desk.say("show soil")), "ok")
        self.assertEqual(all_told(other), all_told(desk))


class LayAndAt(Rows):
    def test_lay(self):
        self.assertEqual(desk_with(SOIL).say("lay"), "2")
        self.assertEqual(desk_with(SOIL, USE).say("lay"), "4")
        self.assertEqual(desk_with(SOIL, USE, BENT).say("lay"), "6")

    def test_at(self):
        desk = desk_with(SOIL, USE)
        for row, expected in (
            ("at 1,1/2", "west south"), ("at 3,1/2", "east south"), ("at 1,3", "west north"), ("at 7/2,7/2", "east north"),
            ("at 2,3", "none"), ("at 1,1", "none"), ("at 2,1", "none"), ("at 0,0", "none"), ("at 0,2", "none"), ("at 5,1", "none"),
            ("at -1,-1", "none"), ("at 999999,-1/999999", "none"), ("at 1/999999,1/2", "west south"),
        ):
            self.assertEqual(desk.say(row), expected)
        self.assertEqual(desk_with(SOIL).say("at 1,1"), "west")

    def test_no_row(self):
        desk = desk_with(SOIL)
        self.assert_no_row(desk, "lay ", " lay", "lay soil", "lays", "Lay", "lay\n", "la", "lay lay")
        self.assert_no_row(desk, "at", "at ", "at 1", "at 1,", "at ,1", "at 1,1 ", "at  1,1", "at 1,1 2,2", "at 1, 1", "at 1 1", "at 1,1,1",
                           "at 01,1", "at 1,+1", "at 2/4,1", "at 1,-0", "at 1/0,1", "at x,y", "at soil", "at 1;1", " at 1,1", "at1,1", "at 1,1\n")

    def test_without_sheets(self):
        self.assert_no_row(Desk(), "lay", "at 1,1", "at 0,0")
        desk = desk_with(SOIL)
        desk.say("drop soil")
        self.assert_no_row(desk, "lay", "at 1,1", "areas soil", "worth any : 1", "patches soil")


class Areas(Rows):
    def test_by_names(self):
        desk = desk_with(SOIL, USE)
        self.assertEqual(desk.say("areas soil"), "lake 8; wood 8")
        self.assertEqual(desk.say("areas use"), "farm 12; town 4")
        self.assertEqual(desk.say("areas soil use"), "lake farm 6; lake town 2; wood farm 6; wood town 2")
        self.assertEqual(desk.say("areas use soil"), "farm lake 6; farm wood 6; town lake 2; town wood 2")

    def test_broken_areas(self):
        desk = desk_with("sheet s|face a m 0,0 1/3,0 0,1|face b n 1/3,0 1,0 0,1")
        self.assertEqual(desk.say("areas s"), "m 1/6; n 1/3")

    def test_no_name_from_the_left(self):
        desk = desk_with(SOIL, USE)
        self.assert_no_name("rain", desk, "areas rain")
        self.assert_no_name("rain", desk, "areas soil rain owner")
        self.assert_no_name("owner", desk, "areas owner rain soil")
        self.assert_no_name("rain", desk, "patches soil rain owner use")

    def test_no_row_goes_first(self):
        desk = desk_with(SOIL, USE)
        for row in ("areas", "patches"):
            self.assert_no_row(desk, row, row + " ", row + " soil ", row + "  soil", row + " soil  use", row + " soil soil",
                               row + " soil use soil", row + " rain rain", row + " rain Soil", row + " rain soil soil", row + " rain soilsoils",
                               row + " soil,use", row + " 1", " " + row + " soil", row + "soil", row + " soil\n")

    def test_without_sheets_ahead_of_names(self):
        self.assert_no_row(Desk(), "areas soil", "areas soil use", "patches soil", "areas", "patches")


class Worth(Rows):
    def test_worth(self):
        desk = desk_with(SOIL, USE)
        for rules, expected in (
            ("", "0"), ("any : 1", "16"), ("soil wood : 1/3", "8/3"), ("soil wood and use farm : -1/4|use farm:1|any:0", "9/2"),
            ("   ", "0"), ("|any : 1||", "16"), ("rain wet : 5", "0"), ("not rain wet : 5", "80"), ("  any  :  -2  ", "-32"),
        ):
            self.assertEqual(desk.say("worth " + rules), expected)

    def test_no_rule(self):
        desk = desk_with(SOIL)
        for rules, row in (("any", 1), ("any : 1|any", 2), ("||soil : 1", 3), ("any : 1|  |any : 01|any", 3), ("any\n: 1", 1),
                           ("any : 1\nany : 2", 1), ("any : 1|\n", 2), ("soil wood : 1\t", 1)):
            self.assertEqual(self.assert_refused(NoRule, desk, "worth " + rules).row, row, rules)

    def test_no_row(self):
        self.assert_no_row(desk_with(SOIL), "worth", "worthany : 1", " worth any : 1", "Worth any : 1", "worth:1")

    def test_without_sheets_ahead_of_the_rules(self):
        self.assert_no_row(Desk(), "worth any : 1", "worth ", "worth", "worth any")


class Patches(Rows):
    def test_by_names(self):
        desk = desk_with("sheet soil|face a wood 0,0 1,0 1,4 0,4|face b lake 1,0 3,0 3,4 1,4|face c wood 3,0 4,0 4,4 3,4", USE)
        self.assertEqual(desk.say("patches soil"), "3")
        self.assertEqual(desk.say("patches use"), "2")
        self.assertEqual(desk.say("patches soil use"), "6")
        desk.say("mark soil b wood")
        self.assertEqual(desk.say("patches soil"), "1")
        self.assertEqual(desk.say("patches use soil"), "2")


class Plain(Rows):
    def test_plain(self):
        desk = desk_with(BENT, SOIL)
        self.assertEqual(desk.say("plain bent 1/2"), "0")
        self.assertEqual(desk.say("show bent"), BENT)
        self.assertEqual(desk.say("plain bent 1"), "1")
        self.assertEqual(desk.say("show bent"), "sheet bent|face low a 0,0 4,0 4,2 0,2|face high b 0,2 4,2 4,4 0,4")
        self.assertEqual(desk.say("plain bent 1"), "0")
        self.assertEqual(desk.say("at 1,1"), "low west")
        self.assertEqual(desk.say("areas bent"), "a 8; b 8")

    def test_nought(self):
        desk = desk_with("sheet s|face low a 0,0 4,0 4,2 3,2 1,2 0,2|face high b 0,2 1,2 3,2 4,2 4,4 0,4")
        self.assertEqual(desk.say("plain s 0"), "2")
        self.assertEqual(desk.say("show s"), "sheet s|face low a 0,0 4,0 4,2 0,2|face high b 0,2 4,2 4,4 0,4")

    def test_no_name(self):
        self.assert_no_name("soil", desk_with(BENT), "plain soil 1")
        self.assert_no_name("soil", Desk(), "plain soil 1")

    def test_no_row(self):
        desk = desk_with(BENT)
        self.assert_no_row(desk, "plain", "plain bent", "plain bent ", "plain 1", "plain 1 bent", "plain bent 1 ", "plain bent  1", "plain bent 1 1",
                           "plain bent bent 1", "plain bent -1", "plain bent -1/2", "plain bent -0", "plain bent 01", "plain bent 2/4", "plain bent x",
                           "plain bent +1", "plain bent 1/0", "plain soil -1", "plain Bent 1", "plain bent 1,1", " plain bent 1", "plain  bent 1")


class Changes(Rows):
    def test_mark(self):
        desk = desk_with(SOIL, USE)
        self.assertEqual(desk.say("mark soil west moor"), "went 0 came 0")
        self.assertEqual(desk.say("mark soil west moor"), "went 0 came 0")
        self.assertEqual(desk.say("areas soil"), "lake 8; moor 8")

    def test_split(self):
        desk = desk_with(SOIL, USE)
        self.assertEqual(desk.say("split soil west new moor 0,0 2,4"), "went 2 came 4")
        self.assertEqual(desk.say("areas soil"), "lake 8; moor 4; wood 4")
        self.assertEqual(desk.say("at 1/2,7/2"), "west north")
        self.assertEqual(desk.say("at 3/2,3/2"), "new north")
        self.assertEqual(desk.say("split use north more sand 0,1 1/2,2 4,4"), "went 3 came 6")

    def test_join(self):
        desk = desk_with(SOIL, USE)
        self.assertEqual(desk.say("join soil east west"), "went 4 came 2")
        self.assertEqual(desk.say("show soil"), "sheet soil|face east lake 2,0 4,0 4,4 2,4 0,4 0,0")
        self.assertEqual(desk.say("lay"), "2")

    def test_names_of_sheets_first_then_of_faces(self):
        desk = desk_with(SOIL, USE)
        for row, name in (
            ("mark rain west m", "rain"), ("mark rain no m", "rain"), ("mark soil north m", "north"), ("mark west west m", "west"),
            ("split rain west new m 0,0 2,4", "rain"), ("split soil north new m 0,0 2,4", "north"), ("split rain no west m 0,0 0,0", "rain"),
            ("split soil no west m 0,0 0,0", "no"), ("join rain east west", "rain"), ("join soil north west", "north"),
            ("join soil west north", "north"), ("join soil no north", "no"), ("join rain no no", "rain"), ("join soil no no", "no"),
        ):
            self.assert_no_name(name, desk, row)
        self.assert_no_name("soil", Desk(), "mark soil west m")
        self.assert_no_name("soil", Desk(), "split soil west new m 0,0 2,4")
        self.assert_no_name("soil", Desk(), "join soil west east")

    def test_no_path_and_no_join(self):
        desk = desk_with(SOIL, USE)
        for path in ("0,0 2,2", "0,0 0,0", "0,0 2,0", "0,0 5,2 2,4", "1,1 2,4", "0,0 1,3 1,1 2,4 0,0"):
            self.assert_refused(NoPath, desk, "split soil west new m " + path)
        self.assert_refused(NoPath, desk, "split soil west east m 0,0 2,4")
        self.assert_refused(NoPath, desk, "split soil west west m 0,0 2,4")
        self.assert_refused(NoJoin, desk, "join soil west west")

    def test_twelve_faces(self):
        faces = [f"face {'abcdefghijkl'[k]} m {k},0 {k + 1},0 {k + 1},2 {k},2" for k in range(12)]
        desk = desk_with("|".join(["sheet soil"] + faces[:11]))
        self.assertEqual(desk.say("split soil a new m 0,0 1,2"), "went 1 came 2")
        self.assert_refused(NoPath, desk, "split soil b more m 1,0 2,2")
        self.assert_refused(NoPath, desk_with("|".join(["sheet soil"] + faces)), "split soil a new m 0,0 1,2")

    def test_no_row(self):
        desk = desk_with(SOIL, USE)
        self.assert_no_row(desk, "mark", "mark soil", "mark soil west", "mark soil west ", "mark soil west m ", "mark soil west m n", "mark  soil west m",
                           "mark soil west  m", " mark soil west m", "mark soil west M", "mark soil west 1", "mark soil wes1 m", "mark Soil west m",
                           "mark soil west abcdefghi", "mark rain west M", "mark soil west m\n", "mark soil west ,")
        self.assert_no_row(desk, "join", "join soil", "join soil west", "join soil west ", "join soil west east ", "join soil west east more",
                           "join soil  west east", " join soil west east", "join soil West east", "join soil west 1", "join rain west eastwards")
        self.assert_no_row(desk, "split", "split soil", "split soil west", "split soil west new", "split soil west new m", "split soil west new m ",
                           "split soil west new m 0,0", "split soil west new m 0,0 ", "split soil west new m 0,0 2,4 ", "split soil west new m 0,0  2,4",
                           "split soil west new  m 0,0 2,4", "split soil west new m 0,0 2", "split soil west new m 0,0 2,04", "split soil west new m 0,0 more 2,4",
                           "split soil west new 0,0 2,4", "split soil west 0,0 2,4", "split soil west New m 0,0 2,4", "split soil west new m n 0,0 2,4",
                           "split soil west new m 0,0,2,4", "split soil west new m 0,0;2,4", " split soil west new m 0,0 2,4",
                           "split rain no new m 0,0 2/4,4", "split rain", "split rain no new m 1,1 2,x", "split soil west new abcdefghi 0,0 2,4")


class Others(Rows):
    def test_what_is_no_row(self):
        for desk in (Desk(), desk_with(SOIL)):
            self.assert_no_row(desk, "", " ", "  ", "\n", "say", "sheet soil", SOIL, "kept soil", "soil", "keeps " + SOIL, "area soil", "shows soil", "patch soil",
                               "numbered", "undo", "lay|lay", "drop|soil", "help", "None", "ok")

    def test_what_is_no_text(self):
        for desk in (Desk(), desk_with(SOIL)):
            self.assert_no_row(desk, None, 0, 1, True, ["lay"], ("lay",), {"lay": 1}, ["show", "soil"], [], {}, b"lay")

    def test_answers_are_texts(self):
        desk = Desk()
        for row in ("keep " + SOIL, "keep " + BENT, "show soil", "lay", "at 1,1", "at 9,9", "areas soil", "worth any : 1", "patches soil", "plain bent 3",
                    "mark soil west m", "split soil west new m 0,0 2,4", "join soil west new", "drop soil"):
            self.assertIs(type(desk.say(row)), str)

    def test_two_desks_beside_one_another(self):
        one, other = desk_with(SOIL, USE), desk_with(SOIL, USE)
        before = all_told(other)
        for row in ("mark soil west moor", "split use north new m 0,1 4,4", "join soil west east", "plain soil 9", "drop use", "keep " + BENT):
            one.say(row)
            self.assertEqual(all_told(other), before)
        self.assert_no_row(Desk(), "lay")
        other.say("drop soil")
        self.assertEqual(one.say("areas soil"), "moor 16")

    def test_a_refused_row_in_the_midst_of_changes(self):
        desk, other = desk_with(SOIL, USE), desk_with(SOIL, USE)
        rows = ["split soil west new m 0,0 2,4", "mark soil new moor", "join soil west new", "split use south low n 0,1 1/2,1/2 4,0", "plain use 2"]
        wrong = ["split soil west east m 0,0 2,4", "join soil west west", "keep " + WIDE, "drop rain", "mark soil no m", "worth any", "lay lay", "keep sheet soil"]
        for row in rows:
            for bad in wrong:
                self.assertRaises(SheetError, desk.say, bad)
            self.assertEqual(desk.say(row), other.say(row))
        self.assertEqual(all_told(desk), all_told(other))


class AgainstTheStages(Rows):
    def test_by_chance(self):
        # What is told is what the stages tell of the same sheets.
        for seed in range(8):
            sheets = chance_pile(seed, box(0, 0, 12, 12), [(4, 3), (3, 3, 2), (5,), (2, 3, 2, 2)][seed % 4])
            sheets = [sheet for sheet in sheets if is_read(sheet)]
            if not sheets:
                continue
            desk = desk_with(*[sheet_text(sheet).replace("\n", "|") for sheet in sheets])
            lay = Lay(sheets)
            self.assertEqual(desk.say("lay"), str(len(lay.faces)))
            for some, row in lay.faces:
                p = spot_text(spot_in(some))
                if max(map(len, p.replace("/", ",").replace("-", "").split(","))) <= 6:
                    self.assertEqual(desk.say("at " + p), " ".join(row))
            names = [sheet.name for sheet in sheets]
            for some in itertools.permutations(names, min(2, len(names))):
                rows = [" ".join(marks + (number_text(area),)) for marks, area in summed(lay, list(some))]
                self.assertEqual(desk.say("areas " + " ".join(some)), "; ".join(rows))
                self.assertEqual(desk.say("patches " + " ".join(some)), str(len(patches(lay, keys_by(lay, list(some))))))
            book = "soil wood and not use lake : 2/3|use moor or rain wood:-1|any : 1/7"
            expected = land_worth(lay, read_book(book.replace("|", "\n")))
            self.assertEqual(desk.say("worth " + book), number_text(expected))
            told, paper = plainer(sheets[0], (2, 1))
            self.assertEqual(desk.say(f"plain {names[0]} 2"), str(unlike(sheets[0]) - unlike(told)))
            self.assertEqual(desk.say("show " + names[0]), sheet_text(told).replace("\n", "|"))
            self.assertEqual(desk.say("lay"), str(len(Lay([told] + sheets[1:]).faces)))

    def test_changes_as_a_kept_lay_tells_them(self):
        desk, kept = desk_with(SOIL, USE), Kept([SHEETS["soil"], SHEETS["use"]])
        for row, change in (
            ("split soil west new m 0,0 1,2 2,4", lambda: kept.split("soil", "west", loop((0, 0), (1, 2), (2, 4)), "new", "m")),
            ("mark use north sand", lambda: kept.mark("use", "north", "sand")),
            ("split use north top m 4,4 1,3 0,1", lambda: kept.split("use", "north", loop((4, 4), (1, 3), (0, 1)), "top", "m")),
            ("join soil east west", lambda: kept.join("soil", "east", "west")),
            ("join soil new east", lambda: kept.join("soil", "new", "east")),
            ("join use top north", lambda: kept.join("use", "top", "north")),
        ):
            try:
                went, came = change()
            except NoJoin:
                self.assert_refused(NoJoin, desk, row)
                continue
            self.assertEqual(desk.say(row), f"went {len(went)} came {len(came)}")
            self.assertEqual(desk.say("lay"), str(len(kept.numbered())))
            for sheet in kept.pile():
                self.assertEqual(desk.say("show " + sheet.name), sheet_text(sheet).replace("\n", "|"))


SHEETS = {
    "soil": Sheet("soil", [("west", "wood", box(0, 0, 2, 4)), ("east", "lake", box(2, 0, 4, 4))]),
    "use": Sheet("use", [("north", "farm", box(0, 1, 4, 4)), ("south", "town", box(0, 0, 4, 1))]),
}


def is_read(sheet):
    # Whether its numbers have at most six figures above and below.
    words = sheet_text(sheet).replace(",", " ").replace("/", " ").replace("-", "").replace("\n", " ").split(" ")
    return all(len(word) <= 6 for word in words if word.isdigit())


def unlike(sheet):
    return len({p for word, mark, some in sheet.faces for p in some})


if __name__ == "__main__":
    unittest.main()
