"""The whole: from texts to worth, melted and made plainer, and changed again
and again, against what counting cells tells."""

import random
import unittest
from fractions import Fraction

from by_fractions import area_by_places, fraction, goings_of, neighbours
from cells import (
    beside, cells_of, chance_chart, chance_halves, chart_faces, common_parts, outline, parts_of, shared_way, words_of_chart,
)
from examples import MARKS, NAMES, loop
from sheetlay.books import land_worth, leaner, parted, worth
from sheetlay.desk import Desk
from sheetlay.errors import NoJoin, NoPath
from sheetlay.kept import Kept
from sheetlay.lays import Lay
from sheetlay.loops import turned
from sheetlay.melting import keys_by, melt_paper, patches
from sheetlay.numbers import number_text
from sheetlay.plainer import plainer
from sheetlay.rules import read_book
from sheetlay.sheets import Sheet
from sheetlay.sheettexts import read_sheet, sheet_text
from sheetlay.sums import marks_of, summed

RULES = """soil wood and not use lake : 3/2
rain moor or use wood and soil lake : -2
not (soil moor or rain wood) : 1/3
any : 5"""
KINDS = {name: MARKS for name in NAMES[:3]}


def value_by_cells(marks):
    # The same rules, said in Python.
    soil, use, rain = (marks.get(name) for name in NAMES[:3])
    if soil == "wood" and use != "lake":
        return Fraction(3, 2)
    if rain == "moor" or use == "wood" and soil == "lake":
        return Fraction(-2)
    if not (soil == "moor" or rain == "wood"):
        return Fraction(1, 3)
    return Fraction(5)


class World:
    """Charts by chance, and the sheets that tell the same."""

    def __init__(self, seed):
        self.chance = random.Random(seed)
        width, height = self.chance.choice([(4, 4), (5, 4), (3, 5), (6, 3)])
        count = 1 + seed % 3
        self.charts = [chance_chart(self.chance, width, height, self.chance.randint(2, 5)) for k in range(count)]
        self.sheets = [Sheet(NAMES[k], chart_faces(self.chance, chart, MARKS)) for k, chart in enumerate(self.charts)]
        self.marks = [{word: mark for word, mark, some in sheet.faces} for sheet in self.sheets]
        self.names = NAMES[:count]

    def marks_at(self, cell):
        return {name: marks[chart[cell]] for name, marks, chart in zip(self.names, self.marks, self.charts)}

    def areas(self, names):
        sums = {}
        for cell in self.charts[0]:
            key = tuple(self.marks_at(cell)[name] for name in names)
            sums[key] = sums.get(key, 0) + 1
        return sorted((key, (count, 1)) for key, count in sums.items())

    def value(self):
        return sum(value_by_cells(self.marks_at(cell)) for cell in self.charts[0])

    def parts_by(self, key):
        return parts_of({cell: key(self.marks_at(cell)) for cell in self.charts[0]})

    def short(self):
        # Whether each loop is short enough to be read.
        return all(len(some) <= 24 for sheet in self.sheets for word, mark, some in sheet.faces)


def worlds(first, count):
    return [world for world in map(World, range(first, first + count)) if world.short()]


def goes_round(some, cell):
    # By the upright sides that pass at the right of the cell, up or down.
    rounds = 0
    for (x, low, one), (other_x, high, other_one) in goings_of(some):
        if x > cell[0] and min(low, high) <= cell[1] < max(low, high):
            rounds += 1 if low < high else -1
    return rounds != 0


def cells_within(loops, cells):
    # Those of the cells that are within the first loop, and no other.
    return frozenset(
        cell for cell in cells
        if goes_round(loops[0], cell) and not any(goes_round(some, cell) for some in loops[1:])
    )


class FromTextsToWorth(unittest.TestCase):
    def test_faces_areas_and_worth(self):
        for world in worlds(0, 30):
            lay = Lay([read_sheet(sheet_text(sheet)) for sheet in world.sheets])
            told = {cells_within([some], world.charts[0]): row for some, row in lay.faces}
            self.assertEqual(told, common_parts(world.charts))
            for names in ([], world.names, world.names[:1], world.names[::-1]):
                self.assertEqual(summed(lay, names), world.areas(names))
            book = read_book(RULES)
            self.assertEqual(fraction(land_worth(lay, book)), world.value())
            if len(world.names) == 3:
                self.assertEqual(land_worth(lay, leaner(book, KINDS)), land_worth(lay, book))
                self.assertIsNone(parted(book, leaner(book, KINDS), KINDS))

    def test_melted_by_marks_and_by_worth(self):
        book = read_book(RULES)
        for world in worlds(0, 30):
            lay = Lay(world.sheets)
            by_worth = [number_text(worth(book, marks_of(lay, n))) for n in range(len(lay.faces))]
            for keys, key in (
                (keys_by(lay, world.names), lambda marks: tuple(sorted(marks.items()))),
                (keys_by(lay, world.names[-1:]), lambda marks: marks[world.names[-1]]),
                (keys_by(lay, []), lambda marks: ""), (by_worth, value_by_cells),
            ):
                told = patches(lay, keys)
                within = [cells_within(loops, world.charts[0]) for word, loops, faces in told]
                self.assertEqual(sorted(map(sorted, within)), sorted(map(sorted, world.parts_by(key))))
                by_parts = {frozenset((j, k)) for j, one in enumerate(within) for k, other in enumerate(within)
                            if j < k and any(near in other for cell in one for near in beside(cell))}
                paper = {frozenset(sides[2:]) for sides in melt_paper(lay, keys) if None not in sides}
                self.assertEqual(paper, by_parts)
            total = sum(fraction(worth(book, marks_of(lay, faces[0]))) * sum(map(area_by_places, loops))
                        for key, loops, faces in patches(lay, by_worth))
            self.assertEqual(total, world.value())

    def test_plainer_sheets_laid(self):
        went = 0
        for world in worlds(0, 24):
            for far in ((0, 1), (1, 1), (3, 1)):
                plain = [plainer(sheet, far)[0] for sheet in world.sheets]
                for sheet, told in zip(world.sheets, plain):
                    went += sum(len(some) for word, mark, some in sheet.faces) - sum(len(some) for word, mark, some in told.faces)
                    self.assertEqual(neighbours(told), neighbours(sheet))
                    self.assertEqual([face[:2] for face in told.faces], [face[:2] for face in sheet.faces])
                    if far == (0, 1):
                        self.assertEqual([area_by_places(face[2]) for face in told.faces], [area_by_places(face[2]) for face in sheet.faces])
                lay = Lay(plain)
                for k, sheet in enumerate(plain):
                    for word, mark, some in sheet.faces:
                        areas = [area_by_places(own) for own, row in lay.faces if row[k] == word]
                        self.assertEqual(sum(areas), area_by_places(some))
                if far == (0, 1):
                    self.assertEqual(land_worth(lay, read_book(RULES)), land_worth(Lay(world.sheets), read_book(RULES)))
                    self.assertEqual(sorted(row for some, row in lay.faces), sorted(common_parts(world.charts).values()))
        self.assertGreater(went, 200)


class ManyChanges(unittest.TestCase):
    def change(self, world, k, fresh):
        # A change of a chart: its words, and whether it is one.
        chance, chart = world.chance, world.charts[k]
        words = words_of_chart(chart)
        word = chance.choice(words)
        kind = chance.choice(["mark", "split", "split", "split", "join"])
        if kind == "mark":
            mark = chance.choice(MARKS)
            world.marks[k][word] = mark
            return ("mark", word, mark), True
        if kind == "join":
            other = chance.choice(words)
            one, its = cells_of(chart, word), cells_of(chart, other)
            good = word != other and shared_way(one, its) is not None and outline(one | its) is not None
            if good:
                world.charts[k] = {cell: word if chart[cell] == other else chart[cell] for cell in chart}
            return ("join", word, other), good
        halves = chance_halves(chance, cells_of(chart, word))
        if halves is None:
            return None, False
        mark, path = chance.choice(MARKS), shared_way(*halves)
        if len(words) < 12:
            world.charts[k] = {cell: fresh if cell in halves[1] else chart[cell] for cell in chart}
            world.marks[k][fresh] = mark
        return ("split", word, loop(*path), fresh, mark), len(words) < 12

    def walk(self, seed, steps):
        # Yields, for each change that can be asked, the lay's faces as cells
        # and rows ahead of it, and whether it is refused.
        world = World(seed)
        for step in range(steps):
            k = world.chance.randrange(len(world.charts))
            before = common_parts(world.charts)
            asked, good = self.change(world, k, "z" + "abcdefghij"[step // 10 % 10] + "abcdefghij"[step % 10])
            if asked is not None:
                yield world, k, before, asked, good

    def test_a_kept_lay(self):
        done = refused = 0
        for seed in range(12):
            numbers = kept = None
            for world, k, before, asked, good in self.walk(seed, 60):
                if kept is None:
                    kept = Kept(World(seed).sheets)
                    numbers = {part: n for n, part in self.numbered_cells(kept, world).items()}
                    self.assertEqual({cells: row for cells, row in numbers}, before)
                    given = len(numbers)
                change = {"mark": kept.mark, "split": kept.split, "join": kept.join}[asked[0]]
                if not good:
                    with self.assertRaises(NoJoin if asked[0] == "join" else NoPath):
                        change(world.names[k], *asked[1:])
                    refused += 1
                    continue
                went, came = change(world.names[k], *asked[1:])
                after = set(common_parts(world.charts).items())
                self.assertEqual(went, sorted(numbers[part] for part in numbers if part not in after))
                self.assertEqual(came, list(range(given, given + len(after - set(numbers)))))
                given += len(came)
                told = self.numbered_cells(kept, world)
                self.assertEqual(set(told.values()), after)
                self.assertEqual(list(told), sorted(told))
                for part, n in numbers.items():
                    self.assertEqual(told.get(n), part if part in after else None)
                numbers = {part: n for n, part in told.items()}
                self.assertEqual(summed(kept.lay(), world.names), world.areas(world.names))
                self.assertEqual([turned(some) for some, row in kept.lay().faces], [some for some, row in Lay(kept.pile()).faces])
                done += 1
        self.assertGreater(min(done, refused), 60)

    def numbered_cells(self, kept, world):
        return {n: (cells_within([some], world.charts[0]), row) for n, (some, row) in kept.numbered().items()}

    def test_a_desk(self):
        for seed in (4, 7, 8, 10, 13, 16):
            desk, world = Desk(), World(seed)
            if not world.short():
                continue
            for sheet in world.sheets:
                self.assertEqual(desk.say("keep " + sheet_text(sheet).replace("\n", "|")), "ok")
            for world, k, before, asked, good in self.walk(seed, 40):
                row = self.row(world.names[k], asked)
                if not good:
                    self.assertRaises(NoJoin if asked[0] == "join" else NoPath, desk.say, row)
                    continue
                after = common_parts(world.charts)
                went, came = set(before.items()) - set(after.items()), set(after.items()) - set(before.items())
                self.assertEqual(desk.say(row), f"went {len(went)} came {len(came)}")
                self.assert_told(desk, world, after)

    def row(self, name, asked):
        if asked[0] != "split":
            return " ".join([asked[0], name] + list(asked[1:]))
        path = " ".join(f"{p[0]},{p[1]}" for p in asked[2])
        return f"split {name} {asked[1]} {asked[3]} {asked[4]} {path}"

    def assert_told(self, desk, world, parts):
        self.assertEqual(desk.say("lay"), str(len(parts)))
        rows = [" ".join(marks) + f" {count}" for marks, (count, one) in world.areas(world.names)]
        self.assertEqual(desk.say("areas " + " ".join(world.names)), "; ".join(rows))
        told = desk.say("worth " + RULES.replace("\n", "|"))
        self.assertEqual(Fraction(told), world.value())
        patched = world.parts_by(lambda marks: marks[world.names[0]])
        self.assertEqual(desk.say("patches " + world.names[0]), str(len(patched)))
        x, y = cell = world.chance.choice(sorted(world.charts[0]))
        row = " ".join(chart[cell] for chart in world.charts)
        self.assertEqual(desk.say(f"at {2 * x + 1}/2,{2 * y + 1}/2"), row)
        self.assertEqual(desk.say(f"at {x},{y}"), "none" if self.is_corner(world, x, y) else row_about(world, x, y))

    def is_corner(self, world, x, y):
        around = [(x - 1, y - 1), (x, y - 1), (x - 1, y), (x, y)]
        return any(len({chart.get(cell) for cell in around}) > 1 for chart in world.charts)


def row_about(world, x, y):
    return " ".join(chart[(x, y)] for chart in world.charts)


if __name__ == "__main__":
    unittest.main()
