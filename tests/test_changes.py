"""Changes of a sheet: marked, split, joined, and what they are refused with."""

import itertools
import random
import unittest

from by_fractions import area_by_places, common_by_shares, goings_of, rotations
from examples import MARKS, box, chance_path, chance_pile, loop, split_of
from sheetlay.changes import chain_ends, joined, marked, split
from sheetlay.errors import NoJoin, NoName, NoPath
from sheetlay.lays import Lay
from sheetlay.sheets import Sheet
from sheetlay.spots import spot

GREAT = 10 ** 30
LANDS = [box(0, 0, 12, 12), loop((0, 0), (12, 0), (12, 12), (6, 6), (6, 3), (0, 9))]

# West has a corner that points inside, at 2, 2.
BAY = loop((0, 0), (4, 0), (2, 2), (4, 4), (0, 4))
SOIL = Sheet("soil", [("west", "wood", BAY), ("tip", "moor", loop((4, 0), (4, 4), (2, 2))), ("east", "lake", box(4, 0, 6, 4))])
LONE = Sheet("lone", [("all", "king", box(0, 0, 4, 4))])


def strips(count):
    return Sheet("s", [("abcdefghijklmn"[k], "m", box(k, 0, k + 1, 2)) for k in range(count)])


class Handed(unittest.TestCase):
    def assert_refused(self, error, change, sheet, *words):
        before = (sheet.name, list(sheet.faces), sheet.border())
        with self.assertRaises(error) as told:
            change(sheet, *words)
        self.assertEqual((sheet.name, sheet.faces, sheet.border()), before)
        return told.exception

    def assert_no_name(self, name, change, sheet, *words):
        self.assertEqual(self.assert_refused(NoName, change, sheet, *words).name, name)


class Marked(Handed):
    def test_another_mark(self):
        told = marked(SOIL, "tip", "sand")
        self.assertEqual(told.name, "soil")
        self.assertEqual(told.faces, [SOIL.faces[0], ("tip", "sand", SOIL.faces[1][2]), SOIL.faces[2]])

    def test_the_same_mark(self):
        told = marked(SOIL, "tip", "moor")
        self.assertEqual(told.faces, SOIL.faces)
        self.assertIsNot(told, SOIL)
        self.assertIsNot(told.faces, SOIL.faces)

    def test_a_mark_of_another_face(self):
        self.assertEqual([mark for word, mark, some in marked(SOIL, "west", "lake").faces], ["lake", "moor", "lake"])

    def test_no_such_face(self):
        self.assert_no_name("wes", marked, SOIL, "wes", "sand")
        self.assert_no_name("soil", marked, SOIL, "soil", "sand")
        self.assert_no_name("wood", marked, SOIL, "wood", "wood")

    def test_the_sheet_stays(self):
        before = list(SOIL.faces)
        marked(SOIL, "tip", "sand").faces.clear()
        self.assertEqual(SOIL.faces, before)


class Split(Handed):
    def test_along_a_path_of_two_spots(self):
        a, b, c, d = box(0, 0, 4, 4)
        told = split(LONE, "all", (a, c), "new", "queen")
        self.assertEqual(told.name, "lone")
        self.assertEqual(told.faces, [("all", "king", (a, c, d)), ("new", "queen", (c, a, b))])
        told = split(LONE, "all", (c, a), "new", "queen")
        self.assertEqual(told.faces, [("all", "king", (c, a, b)), ("new", "queen", (a, c, d))])
        told = split(LONE, "all", (b, d), "new", "king")
        self.assertEqual(told.faces, [("all", "king", (b, d, a)), ("new", "king", (d, b, c))])

    def test_from_whichever_spot_the_loop_is_told(self):
        a, b, c, d = box(0, 0, 4, 4)
        for some in rotations((a, b, c, d)):
            told = split(Sheet("s", [("all", "king", some)]), "all", (d, spot(1, 1), b), "new", "queen")
            self.assertEqual(told.faces, [("all", "king", (d, spot(1, 1), b, c)), ("new", "queen", (b, spot(1, 1), d, a))])

    def test_along_a_path_of_several_spots(self):
        a, b, c, d = box(0, 0, 4, 4)
        path = (a, spot(1, 2), spot(3, 1), spot(3, 2), c)
        told = split(LONE, "all", path, "new", "queen")
        self.assertEqual(told.faces, [("all", "king", path + (d,)), ("new", "queen", path[::-1] + (b,))])

    def test_between_two_ends_of_one_side(self):
        # The path and that side alone make up one of the faces.
        a, b, c, d = box(0, 0, 4, 4)
        told = split(LONE, "all", (a, spot(2, 2), b), "new", "queen")
        self.assertEqual(told.faces, [("all", "king", (a, spot(2, 2), b, c, d)), ("new", "queen", (b, spot(2, 2), a))])
        told = split(LONE, "all", (b, spot(2, 2), a), "new", "queen")
        self.assertEqual(told.faces, [("all", "king", (b, spot(2, 2), a)), ("new", "queen", (a, spot(2, 2), b, c, d))])

    def test_a_straight_path_of_several_spots(self):
        a, b, c, d = box(0, 0, 4, 4)
        path = (a, spot(1, 1), spot(3, 3), c)
        self.assertEqual(split(LONE, "all", path, "new", "queen").faces[0][2], path + (d,))

    def test_the_new_face_is_behind_all_others(self):
        told = split(SOIL, "tip", loop((2, 2), (3, 2), (4, 4)), "new", "wood")
        self.assertEqual([face[:2] for face in told.faces], [("west", "wood"), ("tip", "moor"), ("east", "lake"), ("new", "wood")])
        self.assertEqual(told.faces[0], SOIL.faces[0])
        self.assertEqual(told.faces[2], SOIL.faces[2])
        self.assertEqual((told.faces[1][2], told.faces[3][2]), (loop((2, 2), (3, 2), (4, 4)), loop((4, 4), (3, 2), (2, 2), (4, 0))))

    def test_an_end_that_does_not_stand_in_the_loop(self):
        for path in (
            (spot(2, 0), spot(4, 4)), (spot(0, 0), spot(4, 2)), (spot(1, 1), spot(4, 4)), (spot(0, 0), spot(2, 3)),
            (spot(2, 0), spot(2, 4)), (spot(0, 0), spot(9, 9)), (spot(1, 1), spot(2, 2)),
        ):
            self.assert_refused(NoPath, split, LONE, "all", path, "new", "m")

    def test_a_spot_of_another_face_alone(self):
        self.assert_refused(NoPath, split, SOIL, "west", loop((0, 0), (6, 4)), "new", "m")
        self.assert_refused(NoPath, split, SOIL, "east", loop((4, 4), (2, 2)), "new", "m")

    def test_fewer_than_two_spots(self):
        for path in ((), (spot(0, 0),), (spot(1, 1),)):
            self.assert_refused(NoPath, split, LONE, "all", path, "new", "m")

    def test_a_spot_twice(self):
        a, b, c, d = box(0, 0, 4, 4)
        p, q, r = loop((1, 1), (2, 1), (2, 2))
        for path in ((a, a), (a, p, a), (a, a, c), (a, c, c), (a, p, p, c), (a, p, q, r, p, c), (a, p, q, r, a), (a, p, c, a)):
            self.assert_refused(NoPath, split, LONE, "all", path, "new", "m")

    def test_along_a_side(self):
        a, b, c, d = box(0, 0, 4, 4)
        for path in ((a, b), (b, a), (a, spot(2, 0), b), (a, spot(2, 0), c), (a, spot(0, 1), spot(2, 2), c), (a, spot(2, 2), spot(4, 2), c)):
            self.assert_refused(NoPath, split, LONE, "all", path, "new", "m")

    def test_touching_a_side(self):
        a, b, c, d = box(0, 0, 4, 4)
        for path in ((a, spot(4, 2), d), (a, spot(1, 1), spot(2, 0), spot(3, 1), c)):
            self.assert_refused(NoPath, split, LONE, "all", path, "new", "m")

    def test_through_a_corner(self):
        # From 0, 2 straight on lies the corner at 2, 2.
        some = loop((0, 0), (4, 0), (2, 2), (4, 4), (0, 4), (0, 2))
        sheet = Sheet("s", [("west", "m", some), ("tip", "n", loop((4, 0), (4, 4), (2, 2)))])
        self.assert_refused(NoPath, split, sheet, "west", loop((4, 0), (2, 2), (0, 2)), "new", "m")
        self.assert_refused(NoPath, split, sheet, "west", loop((0, 0), (1, 1), (3, 3), (4, 4)), "new", "m")
        self.assert_refused(NoPath, split, sheet, "west", loop((0, 0), (4, 4)), "new", "m")
        self.assertEqual(len(split(sheet, "west", loop((0, 2), (2, 2)), "new", "m").faces), 3)
        # Through one of its own ends.
        self.assert_refused(NoPath, split, sheet, "west", loop((2, 2), (1, 3), (3, 1), (0, 0)), "new", "m")
        self.assert_refused(NoPath, split, LONE, "all", loop((0, 0), (1, 1), (1, 2), (2, 0), (0, 4)), "new", "m")

    def test_outside(self):
        for path in (loop((4, 0), (4, 4)), loop((4, 0), (3, 2), (4, 4)), loop((4, 4), (3, 2), (4, 0)), loop((4, 0), (5, 2), (4, 4))):
            self.assert_refused(NoPath, split, SOIL, "west", path, "new", "m")
        self.assert_refused(NoPath, split, LONE, "all", loop((0, 0), (5, 2), (4, 4)), "new", "m")
        self.assert_refused(NoPath, split, LONE, "all", loop((0, 0), (-1, 5), (4, 4)), "new", "m")

    def test_out_and_in_again(self):
        self.assert_refused(NoPath, split, SOIL, "west", loop((0, 0), (3, 1), (3, 3), (0, 4)), "new", "m")
        self.assert_refused(NoPath, split, LONE, "all", loop((0, 0), (2, 2), (2, 5), (3, 2), (4, 4)), "new", "m")

    def test_crossing_itself(self):
        self.assert_refused(NoPath, split, LONE, "all", loop((0, 0), (3, 3), (3, 1), (1, 3), (0, 4)), "new", "m")
        self.assert_refused(NoPath, split, LONE, "all", loop((0, 0), (3, 1), (3, 3), (1, 1, 2), (4, 4)), "new", "m")
        # Touching itself at a corner, or amid a side.
        self.assert_refused(NoPath, split, LONE, "all", loop((0, 0), (2, 2), (3, 2), (1, 1), (0, 4)), "new", "m")
        self.assert_refused(NoPath, split, LONE, "all", loop((0, 0), (1, 1), (3, 3), (3, 1), (2, 2), (0, 4)), "new", "m")

    def test_back_upon_itself(self):
        for path in (
            loop((0, 0), (3, 3), (2, 2), (4, 4)), loop((0, 0), (2, 2), (1, 1), (4, 0)), loop((0, 0), (1, 1), (1, 3), (1, 2), (4, 4)),
            loop((0, 0), (2, 1), (2, 3), (2, 2), (4, 4)),
        ):
            self.assert_refused(NoPath, split, LONE, "all", path, "new", "m")

    def test_a_word_that_a_face_has(self):
        path = loop((0, 0), (2, 2))
        for word in ("west", "tip", "east"):
            self.assert_refused(NoPath, split, SOIL, "west", path, word, "m")
        for word in ("soil", "wood", "lake"):
            self.assertEqual(split(SOIL, "west", path, word, "m").faces[3][0], word)

    def test_eleven_faces_and_twelve(self):
        told = split(strips(11), "c", loop((2, 0), (3, 2)), "new", "n")
        self.assertEqual(len(told.faces), 12)
        self.assertEqual(told.faces[11], ("new", "n", loop((3, 2), (2, 0), (3, 0))))
        self.assert_refused(NoPath, split, strips(12), "c", loop((2, 0), (3, 2)), "new", "n")
        self.assert_refused(NoPath, split, told, "d", loop((3, 0), (4, 2)), "other", "n")

    def test_no_such_face_first(self):
        self.assert_no_name("no", split, SOIL, "no", (), "west", "m")
        self.assert_no_name("no", split, strips(12), "no", loop((2, 0), (3, 2)), "a", "m")
        self.assert_no_name("soil", split, SOIL, "soil", loop((0, 0), (2, 2)), "new", "m")

    def test_the_sheet_stays(self):
        before = list(SOIL.faces)
        split(SOIL, "west", loop((0, 0), (2, 2)), "new", "m").faces.clear()
        self.assertEqual(SOIL.faces, before)

    def test_great_numbers(self):
        some = box(-GREAT, -GREAT, GREAT, GREAT)
        path = (some[0], spot(1, 3, GREAT), some[2])
        told = split(Sheet("s", [("a", "m", some)]), "a", path, "b", "n")
        self.assertEqual(told.faces, [("a", "m", path + some[3:]), ("b", "n", path[::-1] + some[1:2])])
        path = (some[0], spot(GREAT, 1, 1), some[2])
        self.assert_refused(NoPath, split, Sheet("s", [("a", "m", some)]), "a", path, "b", "n")

    def test_a_long_loop(self):
        # Longer than what is handed in may be, as the program told it.
        sheet = LONE
        words = iter("bcdefghijk")
        path = tuple([spot(0, 0)] + [spot(k, 1 + k % 2, 10) for k in range(1, 24)] + [spot(4, 0)])
        sheet = split(sheet, "all", path, next(words), "m")
        self.assertEqual([len(face[2]) for face in sheet.faces], [27, 25])
        self.assertEqual(split(sheet, "all", (path[5], spot(4, 4)), "more", "m").faces[2][0], "more")


class Joined(Handed):
    def test_along_one_side(self):
        told = joined(SOIL, "tip", "east")
        self.assertEqual(told.name, "soil")
        self.assertEqual(told.faces, [SOIL.faces[0], ("tip", "moor", loop((4, 4), (2, 2), (4, 0), (6, 0), (6, 4)))])
        told = joined(SOIL, "east", "tip")
        self.assertEqual(told.faces, [SOIL.faces[0], ("east", "lake", loop((4, 0), (6, 0), (6, 4), (4, 4), (2, 2)))])

    def test_along_several_sides(self):
        told = joined(SOIL, "west", "tip")
        self.assertEqual(told.faces, [("west", "wood", loop((4, 4), (0, 4), (0, 0), (4, 0))), SOIL.faces[2]])
        told = joined(SOIL, "tip", "west")
        self.assertEqual(told.faces, [("tip", "moor", loop((4, 0), (4, 4), (0, 4), (0, 0))), SOIL.faces[2]])

    def test_from_whichever_spots_the_loops_are_told(self):
        for one, other in itertools.product(rotations(BAY), rotations(SOIL.faces[1][2])):
            sheet = Sheet("soil", [("tip", "moor", other), ("east", "lake", SOIL.faces[2][2]), ("west", "wood", one)])
            self.assertEqual(joined(sheet, "west", "tip").faces, [sheet.faces[1], ("west", "wood", loop((4, 4), (0, 4), (0, 0), (4, 0)))])
            self.assertEqual(joined(sheet, "tip", "west").faces, [("tip", "moor", loop((4, 0), (4, 4), (0, 4), (0, 0))), sheet.faces[1]])

    def test_two_faces_to_one(self):
        sheet = split(LONE, "all", loop((0, 0), (2, 1), (4, 4)), "new", "queen")
        a, b, c, d = box(0, 0, 4, 4)
        self.assertEqual(joined(sheet, "all", "new").faces, [("all", "king", (c, d, a, b))])
        self.assertEqual(joined(sheet, "new", "all").faces, [("new", "queen", (a, b, c, d))])

    def test_straight_spots_stay(self):
        told = joined(strips(3), "b", "c")
        self.assertEqual(told.faces[1], ("b", "m", loop((2, 2), (1, 2), (1, 0), (2, 0), (3, 0), (3, 2))))

    def test_a_gap_in_the_chain(self):
        # The eye lies between the two, and both meet at either hand of it.
        eye = box(1, 1, 2, 2)
        low = loop((0, 0), (3, 0), (3, 1), (2, 1), (1, 1), (0, 1))
        high = loop((0, 1), (1, 1), (1, 2), (2, 2), (2, 1), (3, 1), (3, 3), (0, 3))
        sheet = Sheet("s", [("low", "a", low), ("eye", "b", eye), ("high", "c", high)])
        self.assert_refused(NoJoin, joined, sheet, "low", "high")
        self.assert_refused(NoJoin, joined, sheet, "high", "low")
        self.assertEqual(len(joined(sheet, "low", "eye").faces), 2)
        self.assertEqual(joined(sheet, "high", "eye").faces[1], ("high", "c", loop((2, 1), (3, 1), (3, 3), (0, 3), (0, 1), (1, 1))))

    def test_no_side_in_common(self):
        self.assert_refused(NoJoin, joined, SOIL, "west", "east")
        self.assert_refused(NoJoin, joined, strips(4), "a", "c")
        quarters = [("a", "m", box(0, 0, 1, 1)), ("b", "m", box(1, 0, 2, 1)), ("c", "m", box(0, 1, 1, 2)), ("d", "m", box(1, 1, 2, 2))]
        self.assert_refused(NoJoin, joined, Sheet("s", quarters), "a", "d")
        self.assert_refused(NoJoin, joined, Sheet("s", quarters), "c", "b")

    def test_a_loop_that_would_not_be_simple(self):
        # Ring and arch have one side in common, and a spot elsewhere.
        ring = loop((0, 0), (6, 0), (6, 2), (4, 2), (3, 1), (2, 2), (0, 2))
        arch = loop((0, 2), (2, 2), (2, 3), (4, 2), (6, 3), (6, 6), (0, 6))
        hole = loop((2, 2), (3, 1), (4, 2), (2, 3))
        nook = loop((4, 2), (6, 2), (6, 3))
        sheet = Sheet("s", [("ring", "a", ring), ("hole", "b", hole), ("arch", "c", arch), ("nook", "d", nook)])
        self.assertEqual(chain_ends(ring, arch), (spot(2, 2), spot(0, 2)))
        self.assert_refused(NoJoin, joined, sheet, "ring", "arch")
        self.assert_refused(NoJoin, joined, sheet, "arch", "ring")
        self.assertEqual(len(joined(joined(sheet, "ring", "nook"), "ring", "hole").faces), 2)

    def test_all_of_a_loop(self):
        # No two faces of a sheet have this, so their loops are asked alone.
        some = box(0, 0, 2, 2)
        self.assertIsNone(chain_ends(some, some[::-1]))
        self.assertIsNone(chain_ends(some[2:] + some[:2], some[::-1]))
        self.assertEqual(chain_ends(some, some[2::-1] + (spot(9, 9),)), (some[0], some[2]))

    def test_one_and_the_same_face(self):
        self.assert_refused(NoJoin, joined, SOIL, "west", "west")
        self.assert_refused(NoJoin, joined, LONE, "all", "all")

    def test_no_such_face_first(self):
        self.assert_no_name("no", joined, SOIL, "no", "west")
        self.assert_no_name("no", joined, SOIL, "west", "no")
        self.assert_no_name("no", joined, SOIL, "no", "other")
        self.assert_no_name("other", joined, SOIL, "other", "no")
        self.assert_no_name("no", joined, SOIL, "no", "no")

    def test_the_sheet_stays(self):
        before = list(SOIL.faces)
        joined(SOIL, "west", "tip").faces.clear()
        self.assertEqual(SOIL.faces, before)


# The same once more, by other ways.

def is_simple_by_shares(some):
    if len(set(some)) < len(some):
        return False
    sides = goings_of(some)
    for (k, one), (j, other) in itertools.combinations(enumerate(sides), 2):
        shared = set(one) & set(other)
        expected = ("spot", shared.pop()) if len(shared) == 1 else None
        if common_by_shares(one, other) != expected:
            return False
    return True


def joined_by_goings(one, other):
    # The goings that are left of both must be one simple loop, and those
    # taken out one way that is not closed.
    back = {(b, a) for a, b in goings_of(other)}
    chain = dict(going for going in goings_of(one) if going in back)
    first = set(chain) - set(chain.values())
    if len(first) != 1:
        return None
    gone = set(chain.items())
    left = [going for going in goings_of(one) if going not in gone]
    left += [going for going in goings_of(other) if going[::-1] not in gone]
    onward = dict(left)
    if len(onward) < len(left):
        return None
    p = (set(chain.values()) - set(chain)).pop()
    some = []
    while p not in some:
        some.append(p)
        p = onward[p]
    return tuple(some) if len(some) == len(left) and is_simple_by_shares(some) else None


def split_by_shares(some, path):
    if path[0] not in some or path[-1] not in some:
        return None
    return split_of(some, path)


class ByChance(Handed):
    def test_split(self):
        chance = random.Random(36)
        done = refused = 0
        for seed in range(60):
            sheet = chance_pile(seed, LANDS[seed % 2], (1 + seed % 6,))[0]
            for k in range(20):
                word, mark, some = chance.choice(sheet.faces)
                path = chance_path(chance, some)
                parts = split_by_shares(some, path)
                if parts is None:
                    self.assert_refused(NoPath, split, sheet, word, path, "new", "m")
                    refused += 1
                    continue
                told = split(sheet, word, path, "new", "m")
                expected = [(word, mark, parts[0]) if face[0] == word else face for face in sheet.faces]
                self.assertEqual(told.faces, expected + [("new", "m", parts[1])])
                self.assertEqual(sum(area_by_places(part) for part in parts), area_by_places(some))
                self.assertEqual(told.land(), sheet.land())
                done += 1
        self.assertGreater(min(done, refused), 200)

    def test_joined(self):
        done = refused = 0
        for seed in range(80):
            sheet = chance_pile(seed, LANDS[seed % 2], (2 + seed % 7,))[0]
            for (one, mark, own), (other, gone, its) in itertools.permutations(sheet.faces, 2):
                some = joined_by_goings(own, its)
                if some is None:
                    self.assert_refused(NoJoin, joined, sheet, one, other)
                    refused += 1
                    continue
                told = joined(sheet, one, other)
                expected = [(one, mark, some) if face[0] == one else face for face in sheet.faces if face[0] != other]
                self.assertEqual(told.faces, expected)
                self.assertEqual(area_by_places(some), area_by_places(own) + area_by_places(its))
                self.assertEqual(told.land(), sheet.land())
                done += 1
        self.assertGreater(min(done, refused), 200)

    def test_split_and_joined_again(self):
        chance = random.Random(37)
        for seed in range(30):
            sheet = chance_pile(seed, LANDS[seed % 2], (4,))[0]
            for k in range(10):
                word, mark, some = chance.choice(sheet.faces)
                path = chance_path(chance, some)
                if split_by_shares(some, path) is not None:
                    told = joined(split(sheet, word, path, "new", "m"), word, "new")
                    start = told.told(word)[2]
                    self.assertIn(start, rotations(some))
                    self.assertEqual(start[0], path[-1])
                    self.assertEqual([face[:2] for face in told.faces], [face[:2] for face in sheet.faces])

    def test_many_changes_stay_sheets_of_one_land(self):
        chance = random.Random(38)
        sheet = first = Sheet("first", [("a", "m", LANDS[1])])
        words = iter(["".join(letters) for letters in itertools.product("abc", repeat=6)])
        for k in range(400):
            one, other = (chance.choice(sheet.faces) for n in (0, 1))
            try:
                change = chance.choice(["mark", "split", "split", "join"])
                if change == "mark":
                    sheet = marked(sheet, one[0], chance.choice(MARKS))
                elif change == "split":
                    sheet = split(sheet, one[0], chance_path(chance, one[2]), next(words), chance.choice(MARKS))
                else:
                    sheet = joined(sheet, one[0], other[0])
            except (NoPath, NoJoin):
                continue
            self.assertEqual(sheet.land(), first.land())
            self.assertLessEqual(len(sheet.faces), 12)
        self.assertEqual(len(Lay([Sheet("whole", first.faces), sheet]).faces), len(sheet.faces))


if __name__ == "__main__":
    unittest.main()
