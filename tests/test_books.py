"""The worth by books of rules, rules that count, leaner books, books that part."""

import copy
import itertools
import random
import unittest
from fractions import Fraction

from by_fractions import area_by_places, fraction
from examples import MARKS, NAMES, box, chance_pile, loop
from sheetlay.books import counting, land_worth, leaner, parted, worth
from sheetlay.lays import Lay
from sheetlay.rules import holds, read_book
from sheetlay.sheets import Sheet
from sheetlay.within import spot_in

SOIL = Sheet("soil", [("west", "wood", box(0, 0, 1, 4)), ("mid", "lake", box(1, 0, 3, 4)), ("east", "wood", box(3, 0, 4, 4))])
USE = Sheet("use", [("north", "town", box(0, 1, 4, 4)), ("south", "farm", box(0, 0, 4, 1))])
RAIN = Sheet("rain", [("much", "wet", loop((4, 4), (0, 4), (0, 0))), ("little", "dry", loop((0, 0), (4, 0), (4, 4)))])
LAY = Lay([SOIL, USE])

BOOK = read_book("""soil wood and use farm : 3
soil wood : 1/2
use town or rain wet : -2""")
KINDS = {"soil": ["wood", "lake"], "use": ["farm", "town", "moor"]}


def all_choices(kinds):
    return [dict(zip(kinds, marks)) for marks in itertools.product(*kinds.values())]


def first_by_walk(book, choice):
    return next((k for k, rule in enumerate(book) if holds(rule[0], choice)), None)


def worth_by_walk(book, marks):
    k = first_by_walk(book, marks)
    return (0, 1) if k is None else book[k][1]


class Worth(unittest.TestCase):
    def test_by_the_first_rule_that_holds(self):
        for marks, expected in (
            ({"soil": "wood", "use": "farm"}, (3, 1)), ({"soil": "wood", "use": "town"}, (1, 2)), ({"soil": "wood"}, (1, 2)),
            ({"soil": "lake", "use": "town"}, (-2, 1)), ({"rain": "wet"}, (-2, 1)),
            ({"soil": "wood", "use": "farm", "rain": "wet"}, (3, 1)),
        ):
            self.assertEqual(worth(BOOK, marks), expected)
        self.assertEqual(worth(read_book("any : 0\nany : 1"), {}), (0, 1))
        self.assertEqual(worth(read_book("any : 2\nsoil wood : 1"), {"soil": "wood"}), (2, 1))

    def test_nought_where_none_holds(self):
        self.assertEqual(worth(BOOK, {"soil": "lake", "use": "farm"}), (0, 1))
        self.assertEqual(worth(BOOK, {}), (0, 1))

    def test_an_empty_book(self):
        self.assertEqual(worth([], {"soil": "wood"}), (0, 1))
        self.assertEqual(worth([], {}), (0, 1))

    def test_a_number_is_a_tuple(self):
        self.assertIs(type(worth(BOOK, {"soil": "wood"})), tuple)


class LandWorth(unittest.TestCase):
    def test_of_a_lay(self):
        # Wood and farm 2, wood and town 6, lake and town 6, lake and farm 2.
        self.assertEqual(land_worth(LAY, BOOK), (6 + 3 - 12, 1))
        self.assertEqual(land_worth(LAY, read_book("any : 1")), (16, 1))
        self.assertEqual(land_worth(LAY, read_book("any : -1/3")), (-16, 3))
        self.assertEqual(land_worth(LAY, read_book("soil lake : 1/16\nuse farm : 1/4")), (1, 1))

    def test_an_empty_book_and_one_of_other_names(self):
        self.assertEqual(land_worth(LAY, []), (0, 1))
        self.assertEqual(land_worth(LAY, read_book("rain wet : 5\nowner king : 1")), (0, 1))

    def test_broken_areas(self):
        lay = Lay([RAIN, USE])
        self.assertEqual(land_worth(lay, read_book("use farm and rain wet : 1")), (1, 2))
        self.assertEqual(land_worth(lay, read_book("not (use farm and rain wet) : 2/31")), (1, 1))

    def test_by_the_marks_at_a_spot_within_each_face(self):
        chance = random.Random(26)
        for seed in range(16):
            sheets = chance_pile(seed, box(0, 0, 12, 10), [(5, 5), (4, 4, 3), (3, 3, 3, 3), (6,)][seed % 4])
            lay = Lay(sheets)
            book = chance_book(chance, {name: MARKS for name in NAMES}, 5)
            total = 0
            for some, row in lay.faces:
                marks = {sheet.name: sheet.told(sheet.faces_at(spot_in(some))[0])[1] for sheet in sheets}
                total += area_by_places(some) * fraction(worth_by_walk(book, marks))
            self.assertEqual(land_worth(lay, book), total.as_integer_ratio() if total else (0, 1))

    def test_great_numbers(self):
        great = 10 ** 30
        lay = Lay([Sheet("soil", [("a", "wood", loop((-great, -great), (great, 1 - great), (0, great)))])])
        expected = area_by_places(lay.faces[0][0]) * Fraction(999998, 999999)
        self.assertEqual(land_worth(lay, read_book("any : 999998/999999")), expected.as_integer_ratio())

    def test_the_lay_and_the_book_stay(self):
        book = list(BOOK)
        before = (list(LAY.faces), list(LAY.pieces), [list(sheet.faces) for sheet in LAY.sheets])
        land_worth(LAY, book)
        self.assertEqual(book, BOOK)
        self.assertEqual((LAY.faces, LAY.pieces, [sheet.faces for sheet in LAY.sheets]), before)


def chance_thing(chance, kinds):
    # Names that the kinds lack, and marks that they lack, among them.
    name = chance.choice(list(kinds) + ["no"])
    mark = chance.choice(list(kinds.get(name, [])) + ["none"])
    return chance.choice(["", "", "not "]) + chance.choice(["any"] + [f"{name} {mark}"] * 6)


def chance_book(chance, kinds, count):
    rows = []
    for k in range(count):
        things = [chance_thing(chance, kinds) for n in range(chance.randint(1, 3))]
        text = things[0]
        for thing in things[1:]:
            text = chance.choice([f"({text}) and {thing}", f"{text} or {thing}"])
        rows.append(text + " : " + chance.choice(["0", "1", "-1", "1/2", "7/3"]))
    return read_book("\n".join(rows))


def chance_kinds(chance):
    names = chance.sample(NAMES, chance.randint(0, 4))
    return {name: chance.sample(["wood", "lake", "moor"], chance.randint(1, 3)) for name in names}


class Counting(unittest.TestCase):
    def test_a_choice_for_each_rule_that_counts(self):
        told = counting(BOOK, KINDS)
        self.assertEqual(told[0], {"soil": "wood", "use": "farm"})
        self.assertIn(told[1], [{"soil": "wood", "use": "town"}, {"soil": "wood", "use": "moor"}])
        self.assertEqual(told[2], {"soil": "lake", "use": "town"})

    def test_rules_that_never_come_first(self):
        book = read_book("any : 1\nany : 2\nsoil wood : 3")
        self.assertEqual([choice is None for choice in counting(book, KINDS)], [False, True, True])
        book = read_book("soil wood : 1\nsoil lake : 2\nuse farm : 3\nany : 4")
        self.assertEqual([choice is None for choice in counting(book, KINDS)], [False, False, True, True])
        book = read_book("not any : 1\nrain wet : 2\nsoil moor : 3\nnot rain wet : 4")
        self.assertEqual([choice is None for choice in counting(book, KINDS)], [True, True, True, False])
        self.assertEqual(counting(read_book("soil wood and soil lake : 1"), KINDS), [None])

    def test_kinds_of_no_names(self):
        book = read_book("soil wood : 1\nnot soil wood : 2\nany : 3")
        self.assertEqual(counting(book, {}), [None, {}, None])
        self.assertEqual(leaner(book, {}), book[1:2])
        self.assertEqual(parted(book, [], {}), {})
        self.assertIsNone(parted(book, book[1:], {}))

    def test_an_empty_book(self):
        self.assertEqual(counting([], KINDS), [])
        self.assertEqual(counting([], {}), [])
        self.assertEqual(leaner([], KINDS), [])

    def test_a_name_of_one_mark(self):
        book = read_book("soil wood : 1\nany : 2")
        self.assertEqual(counting(book, {"soil": ["wood"]}), [{"soil": "wood"}, None])
        self.assertEqual(counting(book, {"soil": ["lake"]}), [None, {"soil": "lake"}])

    def test_alike_rules(self):
        book = read_book("soil wood : 1\nsoil wood : 1")
        self.assertEqual([choice is None for choice in counting(book, KINDS)], [False, True])
        self.assertEqual(leaner(book, KINDS), book[:1])

    def test_rules_of_one_worth_count_all_the_same(self):
        book = read_book("soil wood : 1\nany : 1\n")
        self.assertEqual(leaner(book, KINDS), book)
        book = read_book("soil wood : 0")
        self.assertEqual(leaner(book, KINDS), book)

    def test_two_hundred_choices(self):
        kinds = {"a": [c * 2 for c in "abcdefghij"], "b": [c * 3 for c in "abcdefghij"], "c": ["x", "y"]}
        book = read_book("\n".join(f"a {c * 2} and b {c * 3} and c y : 1" for c in "abcdefghijk"))
        told = counting(book, kinds)
        self.assertEqual(told, [{"a": c * 2, "b": c * 3, "c": "y"} for c in "abcdefghij"] + [None])

    def test_by_chance(self):
        chance = random.Random(27)
        for k in range(150):
            kinds = chance_kinds(chance)
            book = chance_book(chance, kinds, chance.randint(0, 6))
            choices = all_choices(kinds)
            reached = {first_by_walk(book, choice) for choice in choices}
            told = counting(book, kinds)
            self.assertEqual(len(told), len(book))
            for n, choice in enumerate(told):
                self.assertEqual(choice is not None, n in reached)
                if choice is not None:
                    self.assertIn(choice, choices)
                    self.assertEqual(first_by_walk(book, choice), n)

    def test_each_choice_is_the_askers_own(self):
        told = counting(BOOK, KINDS)
        for choice in told:
            choice.clear()
        told.clear()
        self.assertEqual(counting(BOOK, KINDS)[0], {"soil": "wood", "use": "farm"})


class Leaner(unittest.TestCase):
    def test_the_rules_that_count_in_their_order(self):
        book = read_book("soil wood : 1\nsoil wood and use farm : 2\nuse farm : 3\nsoil lake and use farm : 4\nany : 5")
        self.assertEqual(leaner(book, KINDS), [book[0], book[2], book[4]])
        self.assertEqual(leaner(BOOK, KINDS), BOOK)

    def test_none_counts(self):
        self.assertEqual(leaner(read_book("rain wet : 1\nsoil moor : 2"), KINDS), [])

    def test_the_same_worth_at_each_choice(self):
        chance = random.Random(28)
        for k in range(150):
            kinds = chance_kinds(chance)
            book = chance_book(chance, kinds, chance.randint(0, 6))
            lean = leaner(book, kinds)
            reached = {first_by_walk(book, choice) for choice in all_choices(kinds)}
            self.assertEqual(lean, [rule for n, rule in enumerate(book) if n in reached])
            for choice in all_choices(kinds):
                self.assertEqual(worth(lean, choice), worth_by_walk(book, choice))
            self.assertIsNone(parted(book, lean, kinds))
            self.assertEqual(leaner(lean, kinds), lean)

    def test_a_list_of_its_own(self):
        book = list(BOOK)
        lean = leaner(book, KINDS)
        self.assertIsNot(lean, book)
        lean.clear()
        self.assertEqual(book, BOOK)


class Parted(unittest.TestCase):
    def test_a_choice_or_none(self):
        one, other = read_book("soil wood : 1"), read_book("soil wood and use farm : 1")
        self.assertIn(parted(one, other, KINDS), [{"soil": "wood", "use": "town"}, {"soil": "wood", "use": "moor"}])
        self.assertIsNone(parted(one, other, {"soil": ["wood", "lake"], "use": ["farm"]}))
        self.assertIsNone(parted(one, other, {"soil": ["lake"], "use": ["farm", "town"]}))
        self.assertIsNone(parted(one, one, KINDS))

    def test_by_worth_alone(self):
        one, other = read_book("soil wood : 2\nany : 1/2"), read_book("not soil lake : 2\nsoil lake : 1/2")
        self.assertIsNone(parted(one, other, KINDS))
        self.assertIsNone(parted([], read_book("any : 0"), KINDS))
        self.assertIsNone(parted(read_book("soil wood : 0"), read_book("use farm : 0\nrain wet : 3"), KINDS))

    def test_an_empty_book(self):
        self.assertIsNone(parted([], [], KINDS))
        self.assertEqual(parted([], read_book("soil lake and use moor : -1"), KINDS), {"soil": "lake", "use": "moor"})
        self.assertEqual(parted(read_book("soil lake and use moor : 1"), [], KINDS), {"soil": "lake", "use": "moor"})

    def test_by_chance(self):
        chance = random.Random(29)
        for k in range(150):
            kinds = chance_kinds(chance)
            one, other = (chance_book(chance, kinds, chance.randint(0, 3)) for n in (0, 1))
            choices = [c for c in all_choices(kinds) if worth_by_walk(one, c) != worth_by_walk(other, c)]
            told = parted(one, other, kinds)
            self.assertIn(told, choices or [None])

    def test_the_choice_is_the_askers_own(self):
        parted(BOOK, [], {"soil": ["wood"]}).clear()
        self.assertEqual(parted(BOOK, [], {"soil": ["wood"]}), {"soil": "wood"})


class HandedIn(unittest.TestCase):
    def test_nothing_is_changed(self):
        book, kinds, marks = copy.deepcopy(BOOK), copy.deepcopy(KINDS), {"soil": "wood"}
        worth(book, marks)
        for choice in counting(book, kinds):
            choice["soil"] = "sand"
        leaner(book, kinds)
        parted(book, [], kinds)
        self.assertEqual((book, kinds, marks), (BOOK, KINDS, {"soil": "wood"}))


if __name__ == "__main__":
    unittest.main()
