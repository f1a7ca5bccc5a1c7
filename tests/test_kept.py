"""A lay kept while its sheets are changed: numbers that stay, go and come."""

import itertools
import random
import unittest

from by_fractions import area_by_places
from examples import MARKS, box, chance_path, chance_pile, loop
from sheetlay.changes import joined, marked, split
from sheetlay.errors import NoJoin, NoName, NoPath, NoPile, SheetError
from sheetlay.kept import Kept
from sheetlay.lays import Lay
from sheetlay.sheets import Sheet
from sheetlay.sums import marks_of, summed

LANDS = [box(0, 0, 12, 12), loop((0, 0), (12, 0), (12, 12), (6, 6), (6, 3), (0, 9))]


def upright():
    return Sheet("soil", [("west", "wood", box(0, 0, 2, 4)), ("east", "lake", box(2, 0, 4, 4))])


def level():
    return Sheet("use", [("north", "farm", box(0, 2, 4, 4)), ("south", "town", box(0, 0, 4, 2))])


def four():
    return Kept([upright(), level()])


def sheets_told(sheets):
    return [(sheet.name, sheet.faces) for sheet in sheets]


def told(kept):
    lay = kept.lay()
    marks = [marks_of(lay, n) for n in range(len(lay.faces))]
    return (sheets_told(kept.pile()), sheets_told(lay.sheets), lay.pieces, lay.faces, marks, list(kept.numbered().items()))


class Numbers(unittest.TestCase):
    def test_at_first_in_the_order_of_the_lay(self):
        kept = four()
        self.assertEqual(list(kept.numbered().items()), list(enumerate(Lay([upright(), level()]).faces)))
        self.assertEqual(list(Kept([upright()]).numbered()), [0, 1])

    def test_marked(self):
        kept = four()
        before = kept.numbered()
        self.assertEqual(kept.mark("soil", "west", "sand"), ([], []))
        self.assertEqual(kept.mark("use", "north", "farm"), ([], []))
        self.assertEqual(kept.numbered(), before)
        self.assertEqual([face[:2] for face in kept.pile()[0].faces], [("west", "sand"), ("east", "lake")])
        self.assertEqual(marks_of(kept.lay(), 0), {"soil": "sand", "use": "town"})

    def test_split(self):
        kept = four()
        # From above to below: left of it is the east part, which stays west.
        self.assertEqual(kept.split("soil", "west", loop((2, 4), (1, 3), (1, 1), (2, 0)), "new", "moor"), ([0, 1], [4, 5, 6, 7]))
        rows = {n: row for n, (some, row) in kept.numbered().items()}
        self.assertEqual(rows, {2: ("east", "south"), 3: ("east", "north"), 4: ("new", "south"), 5: ("new", "north"),
                                6: ("west", "south"), 7: ("west", "north")})
        self.assertEqual(list(rows), [2, 3, 4, 5, 6, 7])

    def test_split_where_a_face_stays(self):
        # South is cut within the west alone.
        kept = four()
        self.assertEqual(kept.split("use", "south", loop((0, 2), (1, 1), (0, 0)), "new", "moor"), ([0], [4, 5]))
        self.assertEqual(kept.numbered()[2], (box(2, 0, 4, 2), ("east", "south")))
        self.assertEqual(list(kept.numbered()), [1, 2, 3, 4, 5])

    def test_a_part_with_the_same_loop_and_row_keeps_its_number(self):
        # What is left of the path is cut off along a side of the lay.
        kept = Kept([level(), Sheet("all", [("whole", "king", box(0, 0, 4, 4)[:2] + loop((4, 2), (4, 4), (0, 4), (0, 2)))])])
        went, came = kept.split("all", "whole", loop((4, 2), (0, 2)), "new", "queen")
        self.assertEqual((went, came), ([1], [2]))
        self.assertEqual({n: row for n, (some, row) in kept.numbered().items()}, {0: ("south", "whole"), 2: ("north", "new")})

    def test_joined(self):
        kept = four()
        self.assertEqual(kept.join("soil", "east", "west"), ([0, 1, 2, 3], [4, 5]))
        self.assertEqual(kept.join("use", "south", "north"), ([4, 5], [6]))
        self.assertEqual({n: row for n, (some, row) in kept.numbered().items()}, {6: ("east", "south")})
        self.assertEqual(sorted(map(len, kept.pile()[0].faces[0][2:])), [6])

    def test_none_is_given_twice(self):
        kept = four()
        self.assertEqual(kept.split("soil", "west", loop((0, 0), (2, 4)), "new", "moor"), ([0, 1], [4, 5, 6, 7]))
        # The faces that went come again, but as others.
        self.assertEqual(kept.join("soil", "west", "new"), ([4, 5, 6, 7], [8, 9]))
        self.assertEqual({n: face for n, face in kept.numbered().items() if n > 3}, {8 + n: Lay([upright(), level()]).faces[n] for n in (0, 1)})
        self.assertEqual(list(kept.numbered()), [2, 3, 8, 9])
        self.assertEqual(kept.split("soil", "west", loop((0, 0), (2, 4)), "new", "moor")[1], [10, 11, 12, 13])

    def test_kinds(self):
        kept = four()
        change = kept.split("soil", "west", loop((0, 0), (2, 4)), "new", "moor")
        self.assertEqual((type(change), type(change[0]), type(change[1])), (tuple, list, list))
        self.assertEqual((type(kept.pile()), type(kept.lay()), type(kept.numbered())), (list, Lay, dict))
        self.assertEqual({type(face) for face in kept.numbered().values()}, {tuple})


class Refused(unittest.TestCase):
    def assert_refused(self, error, kept, change, *words):
        before = told(kept)
        with self.assertRaises(error) as raised:
            change(*words)
        self.assertEqual(told(kept), before)
        return raised.exception

    def test_no_pile(self):
        for sheets, one, other in (
            ([upright(), upright()], 0, 1), ([upright(), level(), upright()], 0, 2),
            ([upright(), Sheet("far", [("a", "b", box(0, 0, 4, 5))])], 0, 1),
        ):
            with self.assertRaises(NoPile) as raised:
                Kept(sheets)
            self.assertEqual((raised.exception.one, raised.exception.other), (one, other))

    def test_no_sheet_of_that_name_first(self):
        kept = four()
        for change, words in (
            (kept.mark, ("no", "west", "m")), (kept.mark, ("no", "other", "m")), (kept.mark, ("west", "west", "m")),
            (kept.split, ("no", "other", (), "west", "m")), (kept.split, ("no", "west", loop((0, 0), (2, 4)), "new", "m")),
            (kept.join, ("no", "west", "west")), (kept.join, ("no", "other", "more")),
        ):
            self.assertEqual(self.assert_refused(NoName, kept, change, *words).name, words[0])

    def test_no_face_of_that_word(self):
        kept = four()
        for change, words, name in (
            (kept.mark, ("soil", "north", "m"), "north"), (kept.split, ("use", "west", (), "north", "m"), "west"),
            (kept.join, ("soil", "west", "north"), "north"), (kept.join, ("soil", "north", "west"), "north"),
            (kept.join, ("soil", "south", "north"), "south"),
        ):
            self.assertEqual(self.assert_refused(NoName, kept, change, *words).name, name)

    def test_no_path_and_no_join(self):
        kept = four()
        for path in (loop((0, 0), (2, 2)), loop((0, 0), (2, 0)), loop((0, 0), (3, 2), (2, 4)), ()):
            self.assert_refused(NoPath, kept, kept.split, "soil", "west", path, "new", "m")
        self.assert_refused(NoPath, kept, kept.split, "soil", "west", loop((0, 0), (2, 4)), "east", "m")
        self.assert_refused(NoJoin, kept, kept.join, "soil", "west", "west")

    def test_no_number_is_lost(self):
        kept = four()
        self.assert_refused(NoPath, kept, kept.split, "soil", "west", loop((0, 0), (2, 4)), "east", "m")
        self.assertEqual(kept.split("soil", "west", loop((0, 0), (2, 4)), "new", "moor")[1], [4, 5, 6, 7])


class TheAskersOwn(unittest.TestCase):
    def test_what_was_handed_in(self):
        sheets = [upright(), level()]
        one = sheets[0]
        kept = Kept(sheets)
        before = told(four())
        one.faces.clear()
        sheets[1].faces[0] = ("north", "moor", box(0, 2, 4, 4))
        sheets.clear()
        self.assertEqual(told(kept), before)
        self.assertEqual(kept.mark("soil", "west", "sand"), ([], []))
        self.assertEqual(kept.split("use", "north", loop((0, 2), (4, 4)), "new", "m")[0], [1, 3])

    def test_what_is_handed_in_stays(self):
        sheets = [upright(), level()]
        kept = Kept(sheets)
        kept.mark("soil", "west", "sand")
        kept.split("soil", "west", loop((0, 0), (2, 4)), "new", "m")
        kept.join("use", "north", "south")
        self.assertEqual(sheets_told(sheets), sheets_told([upright(), level()]))

    def test_what_was_told(self):
        kept = four()
        before = told(kept)
        pile = kept.pile()
        pile[0].faces.clear()
        pile[1].faces.append(("x", "y", ()))
        pile.pop()
        lay = kept.lay()
        lay.sheets[0].faces.clear()
        lay.sheets[1].faces[0] = ("north", "moor", box(0, 2, 4, 4))
        for some in (lay.sheets, lay.faces, lay.pieces, kept.numbered()):
            some.clear()
        self.assertEqual(told(kept), before)
        change = kept.split("soil", "west", loop((0, 0), (2, 4)), "new", "m")
        change[0].clear()
        change[1].clear()
        self.assertEqual(list(kept.numbered()), [2, 3, 4, 5, 6, 7])
        self.assertEqual(kept.join("soil", "west", "new"), ([4, 5, 6, 7], [8, 9]))

    def test_new_ones_each_time(self):
        kept = four()
        self.assertIsNot(kept.pile(), kept.pile())
        self.assertIsNot(kept.pile()[0], kept.pile()[0])
        self.assertIsNot(kept.lay(), kept.lay())
        self.assertIsNot(kept.lay().sheets[0], kept.pile()[0])
        self.assertIsNot(kept.numbered(), kept.numbered())

    def test_what_was_told_ahead_of_a_change_stays(self):
        kept = four()
        pile, lay, numbered = kept.pile(), kept.lay(), kept.numbered()
        before = (sheets_told(pile), list(lay.faces), list(lay.pieces), summed(lay, ["soil"]), dict(numbered))
        kept.mark("soil", "west", "sand")
        kept.join("use", "north", "south")
        self.assertEqual((sheets_told(pile), lay.faces, lay.pieces, summed(lay, ["soil"]), numbered), before)

    def test_two_beside_one_another(self):
        sheets = [upright(), level()]
        one, other = Kept(sheets), Kept(sheets)
        one.join("soil", "west", "east")
        self.assertEqual(told(other), told(four()))
        third = Kept(one.pile())
        self.assertEqual(list(third.numbered()), [0, 1])
        third.mark("use", "north", "sand")
        self.assertEqual(one.pile()[1].faces, level().faces)


def chance_change(chance, pile, word):
    # The name of a change, its words, the sheet changed and the two faces.
    sheet = chance.choice(pile)
    one, other = (chance.choice(sheet.faces) for n in (0, 1))
    kind = chance.choice(["mark", "split", "split", "split", "join", "join"])
    if kind == "mark":
        return kind, (sheet.name, one[0], chance.choice(MARKS))
    if kind == "split":
        return kind, (sheet.name, one[0], chance_path(chance, one[2]), word, chance.choice(MARKS))
    return kind, (sheet.name, one[0], other[0])


CHANGES = {"mark": marked, "split": split, "join": joined}


class ByChance(unittest.TestCase):
    def walk(self, seed, steps):
        # The sheets and the numbers are kept beside, and laid anew each time.
        chance = random.Random(seed)
        sheets = chance_pile(seed, LANDS[seed % 2], [(3, 3), (2, 3, 2), (4,), (2, 2, 2, 2)][seed % 4])
        kept = Kept(sheets)
        numbers = {face: n for n, face in enumerate(Lay(sheets).faces)}
        given = len(numbers)
        words = ["".join(letters) for letters in itertools.product("xyz", repeat=7)]
        for k in range(steps):
            kind, asked = chance_change(chance, sheets, words[k])
            n = [sheet.name for sheet in sheets].index(asked[0])
            before = told(kept)
            try:
                changed = CHANGES[kind](sheets[n], *asked[1:])
            except SheetError as error:
                with self.assertRaises(type(error)):
                    getattr(kept, kind)(*asked)
                self.assertEqual(told(kept), before)
                continue
            went, came = getattr(kept, kind)(*asked)
            sheets = sheets[:n] + [changed] + sheets[n + 1:]
            faces = Lay(sheets).faces
            anew = [face for face in faces if face not in numbers]
            gone = {numbers[face]: face for face in numbers if face not in faces}
            self.assertEqual(came, list(range(given, given + len(anew))))
            self.assertEqual(went, sorted(gone))
            numbers = {face: numbers[face] if face in numbers else given + anew.index(face) for face in faces}
            given += len(anew)
            yield kept, sheets, numbers, kind, asked, n, gone, anew

    def test_what_laying_anew_tells(self):
        for seed in range(8):
            count = 0
            for kept, sheets, numbers, kind, asked, n, gone, anew in self.walk(seed, 50):
                lay = Lay(sheets)
                self.assertEqual(sheets_told(kept.pile()), sheets_told(sheets))
                self.assertEqual(sheets_told(kept.lay().sheets), sheets_told(sheets))
                self.assertEqual((kept.lay().faces, kept.lay().pieces, kept.lay().paper()), (lay.faces, lay.pieces, lay.paper()))
                expected = sorted((number, face) for face, number in numbers.items())
                self.assertEqual(list(kept.numbered().items()), expected)
                self.assertEqual(summed(kept.lay(), [sheets[n].name]), summed(lay, [sheets[n].name]))
                count += 1
            self.assertGreater(count, 10)

    def test_no_face_is_touched_beyond_the_faces_changed(self):
        for seed in range(8, 14):
            for kept, sheets, numbers, kind, asked, n, gone, anew in self.walk(seed, 40):
                if kind == "mark":
                    self.assertEqual((gone, anew), ({}, []))
                changed = {"split": {asked[1]}, "join": set(asked[1:3]), "mark": set()}[kind]
                new = {"split": {asked[1], asked[3]} if kind == "split" else set(), "join": {asked[1]}, "mark": set()}[kind]
                self.assertLessEqual({row[n] for some, row in gone.values()}, changed)
                self.assertLessEqual({row[n] for some, row in anew}, new)
                areas = [sum(area_by_places(some) for some, row in faces) for faces in (gone.values(), anew)]
                self.assertEqual(areas[0], areas[1])


if __name__ == "__main__":
    unittest.main()
