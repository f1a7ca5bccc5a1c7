"""Melting: patches of faces with alike keys, and the paper of kept sides."""

import itertools
import random
import unittest

from by_fractions import (
    area_by_places, goings_of, is_on, loops_of_goings, place, places, where_by_places,
)
from examples import box, chance_pile, loop, with_spot
from sheetlay.lays import Lay
from sheetlay.loops import turned
from sheetlay.melting import keys_by, melt_paper, patches
from sheetlay.sheets import Sheet
from sheetlay.spots import spot
from sheetlay.sums import marks_of
from sheetlay.within import spot_in

SOIL = Sheet("soil", [("west", "wood", box(0, 0, 1, 4)), ("mid", "lake", box(1, 0, 3, 4)), ("east", "wood", box(3, 0, 4, 4))])
USE = Sheet("use", [("north", "town", box(0, 1, 4, 4)), ("south", "farm", box(0, 0, 4, 1))])
LAY = Lay([SOIL, USE])
FAN = Lay([Sheet("s", [
    ("a", "m", loop((0, 0), (1, 1), (0, 4))), ("b", "m", loop((1, 1), (4, 4), (0, 4))), ("c", "n", loop((0, 0), (2, 1), (1, 1))),
    ("d", "n", loop((1, 1), (2, 1), (4, 4))), ("e", "o", loop((0, 0), (4, 0), (4, 4), (2, 1))),
])])
LANDS = [box(0, 0, 12, 12), loop((0, 0), (9, 0), (4, 8)), loop((0, 0), (12, 0), (12, 12), (6, 6), (6, 3), (0, 9))]


def grid(width, height):
    # Its faces are boxes, numbered column by column, each from below.
    words = "abcdefghijkl"
    columns = [(words[x], "m", box(x, 0, x + 1, height)) for x in range(width)]
    rows = [(words[y], "m", box(0, y, width, y + 1)) for y in range(height)]
    return Lay([Sheet("columns", columns), Sheet("rows", rows)])


def picture(*rows):
    # A lay and its keys, the rows of the picture told from above.
    keys = [rows[len(rows) - 1 - y][x] for x in range(len(rows[0])) for y in range(len(rows))]
    return (grid(len(rows[0]), len(rows)), keys)


def by_key(lay, keys):
    found = {}
    for key, loops, faces in patches(lay, keys):
        found.setdefault(key, []).append(loops)
    return found


class Patches(unittest.TestCase):
    def test_one_key(self):
        self.assertEqual(patches(LAY, ["x"] * 6), [("x", [box(0, 0, 4, 4)], [0, 1, 2, 3, 4, 5])])
        self.assertEqual(patches(LAY, [""] * 6), [("", [box(0, 0, 4, 4)], [0, 1, 2, 3, 4, 5])])

    def test_one_face(self):
        lay = Lay([Sheet("s", [("a", "b", loop((2, 0), (2, 1), (0, 1), (0, 0), (1, 0)))])])
        self.assertEqual(patches(lay, ["x"]), [("x", [box(0, 0, 2, 1)], [0])])

    def test_all_unlike_keys(self):
        told = patches(LAY, list("abcdef"))
        self.assertEqual([key for key, loops, faces in told], list("abcdef"))
        self.assertEqual([loops for key, loops, faces in told], [[turned(some)] for some, row in LAY.faces])
        self.assertEqual([faces for key, loops, faces in told], [[n] for n in range(6)])

    def test_side_by_side(self):
        lay, keys = picture("aab", "bab")
        self.assertEqual(patches(lay, keys), [
            ("b", [box(0, 0, 1, 1)], [0]), ("a", [loop((0, 1), (1, 1), (1, 0), (2, 0), (2, 2), (0, 2))], [1, 2, 3]),
            ("b", [box(2, 0, 3, 2)], [4, 5]),
        ])

    def test_faces_that_touch_at_a_spot_alone(self):
        lay, keys = picture("ab", "ba")
        self.assertEqual(patches(lay, keys), [
            ("b", [box(0, 0, 1, 1)], [0]), ("a", [box(0, 1, 1, 2)], [1]), ("a", [box(1, 0, 2, 1)], [2]),
            ("b", [box(1, 1, 2, 2)], [3]),
        ])

    def test_faces_that_do_not_touch(self):
        lay, keys = picture("aba")
        self.assertEqual(patches(lay, keys), [
            ("a", [box(0, 0, 1, 1)], [0]), ("b", [box(1, 0, 2, 1)], [1]), ("a", [box(2, 0, 3, 1)], [2]),
        ])

    def test_a_long_way_round(self):
        lay, keys = picture("aaa", "aba", "aba")
        self.assertEqual(patches(lay, keys), [
            ("a", [loop((0, 0), (1, 0), (1, 2), (2, 2), (2, 0), (3, 0), (3, 3), (0, 3))], [0, 1, 2, 5, 6, 7, 8]),
            ("b", [box(1, 0, 2, 2)], [3, 4]),
        ])


class WithinPatches(unittest.TestCase):
    def test_a_patch_with_another_within(self):
        lay, keys = picture("aaa", "aba", "aaa")
        self.assertEqual(patches(lay, keys), [
            ("a", [box(0, 0, 3, 3), turned(box(1, 1, 2, 2)[::-1])], [0, 1, 2, 3, 5, 6, 7, 8]), ("b", [box(1, 1, 2, 2)], [4]),
        ])
        self.assertEqual(patches(lay, keys)[0][1][1], loop((1, 1), (1, 2), (2, 2), (2, 1)))

    def test_several_within_in_order(self):
        lay, keys = picture("aaaaa", "abaca", "aaaaa", "aeada", "aaaaa")
        around = by_key(lay, keys)["a"]
        holes = [turned(box(x, y, x + 1, y + 1)[::-1]) for x, y in ((1, 1), (1, 3), (3, 1), (3, 3))]
        self.assertEqual(around, [[box(0, 0, 5, 5)] + holes])

    def test_several_patches_within_one_loop(self):
        lay, keys = picture("aaaa", "abca", "aaaa")
        self.assertEqual(by_key(lay, keys)["a"], [[box(0, 0, 4, 3), loop((1, 1), (1, 2), (2, 2), (3, 2), (3, 1), (2, 1))]])

    def test_one_within_another_within_another(self):
        lay, keys = picture("aaaaa", "abbba", "abaca", "abbba", "aaaaa")
        told = patches(lay, keys)
        self.assertEqual([key for key, loops, faces in told], list("abac"))
        self.assertEqual(told[0][1], [box(0, 0, 5, 5), loop((1, 1), (1, 4), (4, 4), (4, 3), (4, 2), (4, 1))])
        bay = loop((1, 1), (4, 1), (4, 2), (3, 2), (2, 2), (2, 3), (3, 3), (4, 3), (4, 4), (1, 4))
        self.assertEqual([loops for key, loops, faces in told[1:]], [[bay], [box(2, 2, 3, 3)], [box(3, 2, 4, 3)]])
        lay, keys = picture("aaaaa", "abbba", "ababa", "abbba", "aaaaa")
        self.assertEqual([loops for key, loops, faces in patches(lay, keys)], [
            [box(0, 0, 5, 5), turned(box(1, 1, 4, 4)[::-1])], [box(1, 1, 4, 4), turned(box(2, 2, 3, 3)[::-1])], [box(2, 2, 3, 3)],
        ])


class SpotsInOneRow(unittest.TestCase):
    def test_left_out_where_two_kept_pieces_meet(self):
        lay, keys = picture("aaab", "aaab", "aaab")
        self.assertEqual(by_key(lay, keys), {"a": [[box(0, 0, 3, 3)]], "b": [[box(3, 0, 4, 3)]]})

    def test_kept_where_three_meet(self):
        lay, keys = picture("ab", "ac")
        self.assertEqual(by_key(lay, keys), {
            "a": [[loop((0, 0), (1, 0), (1, 1), (1, 2), (0, 2))]], "b": [[box(1, 1, 2, 2)]], "c": [[box(1, 0, 2, 1)]],
        })

    def test_kept_where_the_land_ends_and_three_meet(self):
        lay, keys = picture("aab", "aab")
        self.assertEqual(melt_paper(lay, keys)[1], (spot(0, 0), spot(2, 0), 0, None))
        self.assertEqual(melt_paper(lay, keys)[4], (spot(2, 0), spot(3, 0), 1, None))

    def test_kept_where_four_meet(self):
        lay, keys = picture("ab", "ba")
        self.assertEqual(len(melt_paper(lay, keys)), 12)

    def test_a_turn_is_kept(self):
        lay, keys = picture("aa", "ab")
        self.assertEqual(by_key(lay, keys)["a"], [[loop((0, 0), (1, 0), (1, 1), (2, 1), (2, 2), (0, 2))]])

    def test_slanted_rows(self):
        # The slanted side is cut where the others cross it, and whole again.
        slanted = Sheet("rain", [("much", "wet", loop((4, 4), (0, 4), (0, 0))), ("little", "dry", loop((0, 0), (4, 0), (4, 4)))])
        lay = Lay([SOIL, slanted])
        self.assertEqual(melt_paper(lay, keys_by(lay, ["rain"])), [
            (spot(0, 0), spot(0, 4), None, 1), (spot(0, 0), spot(4, 0), 0, None), (spot(0, 0), spot(4, 4), 1, 0),
            (spot(0, 4), spot(4, 4), None, 1), (spot(4, 0), spot(4, 4), 0, None),
        ])


class TouchingItself(unittest.TestCase):
    def test_round_a_patch_at_the_corner_of_another(self):
        lay, keys = picture("aab", "aba", "aaa")
        self.assertEqual(patches(lay, keys), [
            ("a", [loop((0, 0), (3, 0), (3, 2), (2, 2), (2, 1), (1, 1), (1, 2), (2, 2), (2, 3), (0, 3))], [0, 1, 2, 3, 5, 6, 7]),
            ("b", [box(1, 1, 2, 2)], [4]), ("b", [box(2, 2, 3, 3)], [8]),
        ])

    def test_two_within_that_touch(self):
        lay, keys = picture("aaaa", "aaba", "abaa", "aaaa")
        loops = by_key(lay, keys)["a"][0]
        self.assertEqual(loops, [box(0, 0, 4, 4), loop((1, 1), (1, 2), (2, 2), (2, 3), (3, 3), (3, 2), (2, 2), (2, 1))])
        lay, keys = picture("aaaa", "abaa", "aaba", "aaaa")
        loops = by_key(lay, keys)["a"][0]
        self.assertEqual(loops, [box(0, 0, 4, 4), loop((1, 2), (1, 3), (2, 3), (2, 2), (3, 2), (3, 1), (2, 1), (2, 2))])

    def test_a_ring_that_touches_itself_within(self):
        # The ring of b about three faces touches itself at two spots.
        lay, keys = picture("bbbb", "bcab", "bacb", "bbbb")
        self.assertEqual([len(loops) for loops in by_key(lay, keys)["b"]], [2])
        lay, keys = picture("bbbbb", "babbb", "bbabb", "bbbab", "bbbbb")
        self.assertEqual([[area_by_places(some) for some in loops] for loops in by_key(lay, keys)["b"]], [[25, -3]])
        lay, keys = picture("bbbb", "babb", "bbab", "bbba")
        self.assertEqual([[area_by_places(some) for some in loops] for loops in by_key(lay, keys)["b"]], [[13]])

    def test_a_checkered_frame(self):
        lay, keys = picture("aaaaa", "ababa", "aabaa", "ababa", "aaaaa")
        told = by_key(lay, keys)
        self.assertEqual([[area_by_places(some) for some in loops] for loops in told["a"]], [[25, -5]])
        self.assertEqual(len(told["b"]), 5)
        hole = told["a"][0][1]
        self.assertEqual(sorted(hole.count(p) for p in set(hole)), [1] * 12 + [2] * 4)


class Paper(unittest.TestCase):
    def test_one_patch(self):
        a, b, c, d = box(0, 0, 4, 4)
        self.assertEqual(melt_paper(LAY, ["x"] * 6), [(a, d, None, 0), (a, b, 0, None), (d, c, None, 0), (b, c, 0, None)])

    def test_two_patches(self):
        lay, keys = picture("ab", "ab")
        a, b, c, d = box(0, 0, 2, 2)
        e, f = spot(1, 0), spot(1, 2)
        self.assertEqual(melt_paper(lay, keys), [
            (a, d, None, 0), (a, e, 0, None), (d, f, None, 0), (e, f, 0, 1), (e, b, 1, None), (f, c, None, 1), (b, c, 1, None),
        ])

    def test_the_numbers_are_those_of_the_patches(self):
        lay, keys = picture("aaa", "aba", "aaa")
        self.assertEqual([key for key, loops, faces in patches(lay, keys)], ["a", "b"])
        e, f, g, h = box(1, 1, 2, 2)
        inner = [told for told in melt_paper(lay, keys) if None not in told]
        self.assertEqual(inner, [(e, h, 0, 1), (e, f, 1, 0), (h, g, 0, 1), (f, g, 1, 0)])

    def test_in_order_by_the_whole_sides_and_loops(self):
        # From 0, 0 the first piece between m and n ends ahead of the one
        # between n and o, but as a whole side behind it.
        keys = keys_by(FAN, ["s"])
        self.assertEqual(keys, ["m", "n", "o", "m", "n"])
        a, b, c, d, e = loop((0, 0), (4, 0), (4, 4), (0, 4), (2, 1))
        self.assertEqual(patches(FAN, keys), [("n", [(a, e, c)], [1, 4]), ("o", [(a, b, c, e)], [2]), ("m", [(a, c, d)], [0, 3])])
        self.assertEqual(melt_paper(FAN, keys), [
            (a, d, None, 2), (a, e, 0, 1), (a, b, 1, None), (a, c, 2, 0), (d, c, None, 2), (e, c, 0, 1), (b, c, 1, None),
        ])


class Keys(unittest.TestCase):
    def test_for_no_names(self):
        self.assertEqual(keys_by(LAY, []), [""] * 6)

    def test_for_one_name(self):
        self.assertEqual(keys_by(LAY, ["soil"]), ["wood", "wood", "lake", "lake", "wood", "wood"])
        self.assertEqual(keys_by(LAY, ["use"]), ["farm", "town"] * 3)

    def test_for_several_names(self):
        self.assertEqual(keys_by(LAY, ["soil", "use"])[:3], ["wood farm", "wood town", "lake farm"])
        self.assertEqual(keys_by(LAY, ["use", "soil"])[:3], ["farm wood", "town wood", "farm lake"])

    def test_melted_by_them(self):
        told = patches(LAY, keys_by(LAY, ["soil"]))
        self.assertEqual(told, [
            ("wood", [box(0, 0, 1, 4)], [0, 1]), ("lake", [box(1, 0, 3, 4)], [2, 3]), ("wood", [box(3, 0, 4, 4)], [4, 5]),
        ])
        told = patches(LAY, keys_by(LAY, ["use"]))
        self.assertEqual(told, [("farm", [box(0, 0, 4, 1)], [0, 2, 4]), ("town", [box(0, 1, 4, 4)], [1, 3, 5])])
        self.assertEqual(len(patches(LAY, keys_by(LAY, ["soil", "use"]))), 6)
        self.assertEqual(len(patches(LAY, keys_by(LAY, []))), 1)

    def test_by_chance(self):
        lay = Lay(chance_pile(3, LANDS[0], (4, 4, 3)))
        for names in itertools.permutations(["soil", "use", "rain"], 2):
            expected = [" ".join(marks_of(lay, n)[name] for name in names) for n in range(len(lay.faces))]
            self.assertEqual(keys_by(lay, list(names)), expected)


# The same once more, by other ways.

def patches_by_merging(lay, keys):
    # Sets of faces, merged again and again as long as two lie side by side.
    groups = [{n} for n in range(len(keys))]
    for p, q, left, right in lay.paper():
        if None not in (left, right) and keys[left] == keys[right]:
            merged = [group for group in groups if left in group or right in group]
            groups = [group for group in groups if group not in merged] + [set().union(*merged)]
    return groups


def sides_by_growing(pieces):
    # Two that meet in one row where no third comes are put together, again
    # and again; each is a tuple (p, q, left, right).
    sides = list(pieces)
    while True:
        for b in {q for p, q, left, right in sides}:
            near = [side for side in sides if b in side[:2]]
            near.sort(key=lambda side: places(side[:2]))
            if len(near) == 2 and near[0][1] == near[1][0] and is_on(b, (near[0][0], near[1][1])):
                sides = [side for side in sides if side not in near] + [near[0][:1] + near[1][1:]]
                break
        else:
            return sorted(sides, key=lambda side: places(side[:2]))


def melted_by_merging(lay, keys):
    groups = patches_by_merging(lay, keys)
    of_face = {n: k for k, group in enumerate(groups) for n in group}
    pieces = [(p, q, of_face.get(left), of_face.get(right)) for p, q, left, right in lay.paper()]
    sides = sides_by_growing([piece for piece in pieces if piece[2] != piece[3]])
    told = []
    for k, group in enumerate(groups):
        goings = [(p, q) for p, q, left, right in sides if left == k] + [(q, p) for p, q, left, right in sides if right == k]
        loops = sorted(loops_of_goings(goings), key=lambda some: (area_by_places(some) < 0, places(some)))
        told.append((keys[min(group)], loops, sorted(group)))
    told.sort(key=lambda patch: places(patch[1][0]))
    number = {of_face[faces[0]]: n for n, (key, loops, faces) in enumerate(told)}
    return told, [(p, q, number.get(left), number.get(right)) for p, q, left, right in sides]


def chance_keys(chance, lay):
    count = chance.randint(1, 4)
    return [chance.choice("abcd"[:count]) for face in lay.faces]


def chance_lays(seed, count):
    chance = random.Random(seed)
    for k in range(count):
        if k % 3 == 0:
            lay = grid(chance.randint(2, 6), chance.randint(2, 6))
        else:
            counts = [(5, 5), (4, 4, 4), (6,), (3, 3, 3, 3)][k % 4]
            lay = Lay(chance_pile(k, LANDS[k % len(LANDS)], counts))
        yield lay, chance_keys(chance, lay)


class ByChance(unittest.TestCase):
    def test_patches_and_paper(self):
        for lay, keys in chance_lays(28, 60):
            told, paper = melted_by_merging(lay, keys)
            self.assertEqual(patches(lay, keys), told)
            self.assertEqual(melt_paper(lay, keys), paper)

    def test_one_loop_above_nought_and_no_area_lost(self):
        for lay, keys in chance_lays(29, 40):
            told = patches(lay, keys)
            self.assertEqual(sorted(n for key, loops, faces in told for n in faces), list(range(len(keys))))
            for key, loops, faces in told:
                areas = [area_by_places(some) for some in loops]
                self.assertGreater(areas[0], 0)
                self.assertTrue(all(area < 0 for area in areas[1:]))
                self.assertEqual(sum(areas), sum(area_by_places(lay.faces[n][0]) for n in faces))
                self.assertEqual({keys[n] for n in faces}, {key})

    def test_each_face_lies_in_its_patch_and_in_no_other(self):
        for lay, keys in chance_lays(30, 20):
            told = patches(lay, keys)
            for n, (some, row) in enumerate(lay.faces):
                p = spot_in(some)
                around = []
                for key, loops, faces in told:
                    if where_by_places(loops[0], p) == 1 and all(where_by_places(hole, p) == -1 for hole in loops[1:]):
                        around.append(faces)
                self.assertEqual(len(around), 1)
                self.assertIn(n, around[0])

    def test_which_patch_lies_by_which_is_kept(self):
        for lay, keys in chance_lays(31, 40):
            number = {n: k for k, (key, loops, faces) in enumerate(patches(lay, keys)) for n in faces}
            beside = {frozenset((number.get(left), number.get(right))) for p, q, left, right in lay.paper()}
            paper = melt_paper(lay, keys)
            self.assertEqual({frozenset(told[2:]) for told in paper}, {pair for pair in beside if len(pair) == 2})
            goings = [going for key, loops, faces in patches(lay, keys) for some in loops for going in goings_of(some)]
            sides = [told[:2] for told in paper]
            border = [told for told in paper if None in told]
            self.assertEqual(len(goings), 2 * len(sides) - len(border))
            self.assertEqual(set(goings) | {going[::-1] for going in goings}, set(sides) | {side[::-1] for side in sides})

    def test_great_numbers(self):
        great = 10 ** 30

        def change(p):
            return spot(p[0] * great + p[2], p[1] * (great - 1) - 7 * p[2], 12 * p[2])

        for seed in range(4):
            sheets = chance_pile(seed, LANDS[seed % 3], (4, 3, 3))
            lay = Lay(sheets)
            keys = chance_keys(random.Random(seed), lay)
            moved = [Sheet(sheet.name, [(word, mark, tuple(change(p) for p in some)) for word, mark, some in sheet.faces])
                     for sheet in sheets]
            expected = [(key, [tuple(change(p) for p in some) for some in loops], faces) for key, loops, faces in patches(lay, keys)]
            self.assertEqual(patches(Lay(moved), keys), expected)

    def test_what_was_told_is_handed_in_again(self):
        # Patches without others within are the faces of a sheet, once each
        # corner that one has on another's side stands in that one's loop.
        lay, keys = picture("aab", "cdb", "cdd")
        loops = [loops[0] for key, loops, faces in patches(lay, keys)]
        for p in {p for some in loops for p in some}:
            for side in {side for some in loops for side in goings_of(some)}:
                if is_on(p, side) and p not in side:
                    loops = [with_spot(some, side, p) for some in loops]
        sheet = Sheet("melted", [(word, "m", some) for word, some in zip("abcd", loops)])
        self.assertEqual([place(p) for p in sheet.land()], [(0, 0), (3, 0), (3, 3), (0, 3)])


class HandedIn(unittest.TestCase):
    def test_nothing_is_changed(self):
        lay, keys = picture("aaa", "aba", "aaa")
        before = (list(keys), list(lay.faces), list(lay.pieces), lay.paper())
        for key, loops, faces in patches(lay, keys):
            loops.clear()
            faces.clear()
        melt_paper(lay, keys).clear()
        keys_by(lay, ["rows"]).clear()
        self.assertEqual((keys, lay.faces, lay.pieces, lay.paper()), before)
        self.assertEqual(len(patches(lay, keys)[0][1]), 2)
        self.assertEqual(len(melt_paper(lay, keys)), 8)

    def test_kinds(self):
        lay, keys = picture("ab", "ab")
        told, paper = patches(lay, keys), melt_paper(lay, keys)
        self.assertEqual([type(thing) for thing in (told, told[0], paper, paper[0])], [list, tuple, list, tuple])
        self.assertEqual([type(thing) for thing in told[0]], [str, list, list])
        self.assertEqual((type(told[0][1][0]), type(keys_by(lay, ["rows"]))), (tuple, list))


if __name__ == "__main__":
    unittest.main()
