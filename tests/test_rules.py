"""Books of rules: how they are read and refused, and where conditions hold."""

import itertools
import random
import unittest

from sheetlay.errors import NoRule
from sheetlay.rules import holds, read_book

ANY = ("any",)
WOOD = ("is", "soil", "wood")
FARM = ("is", "use", "farm")
WET = ("is", "rain", "wet")


def condition(text):
    book = read_book(text + ":1")
    return book[0][0]


class Conditions(unittest.TestCase):
    def test_each_thing(self):
        self.assertEqual(condition("any"), ANY)
        self.assertEqual(condition("soil wood"), WOOD)
        self.assertEqual(condition("not any"), ("not", ANY))
        self.assertEqual(condition("not soil wood"), ("not", WOOD))
        self.assertEqual(condition("not not soil wood"), ("not", ("not", WOOD)))
        self.assertEqual(condition("(soil wood)"), WOOD)
        self.assertEqual(condition("not (soil wood)"), ("not", WOOD))

    def test_and(self):
        self.assertEqual(condition("soil wood and use farm"), ("and", WOOD, FARM))
        self.assertEqual(condition("any and soil wood and use farm"), ("and", ("and", ANY, WOOD), FARM))
        four = ("and", ("and", ("and", WOOD, FARM), WET), ANY)
        self.assertEqual(condition("soil wood and use farm and rain wet and any"), four)

    def test_or(self):
        self.assertEqual(condition("soil wood or use farm"), ("or", WOOD, FARM))
        self.assertEqual(condition("any or soil wood or use farm"), ("or", ("or", ANY, WOOD), FARM))
        four = ("or", ("or", ("or", WOOD, FARM), WET), ANY)
        self.assertEqual(condition("soil wood or use farm or rain wet or any"), four)

    def test_and_binds_closer_than_or(self):
        self.assertEqual(condition("any or soil wood and use farm"), ("or", ANY, ("and", WOOD, FARM)))
        self.assertEqual(condition("soil wood and use farm or any"), ("or", ("and", WOOD, FARM), ANY))
        both = ("or", ("and", WOOD, FARM), ("and", WET, ANY))
        self.assertEqual(condition("soil wood and use farm or rain wet and any"), both)

    def test_not_binds_closest(self):
        self.assertEqual(condition("not soil wood and use farm"), ("and", ("not", WOOD), FARM))
        self.assertEqual(condition("not any or not soil wood"), ("or", ("not", ANY), ("not", WOOD)))
        self.assertEqual(condition("not (soil wood and use farm)"), ("not", ("and", WOOD, FARM)))

    def test_brackets(self):
        self.assertEqual(condition("(any or soil wood) and use farm"), ("and", ("or", ANY, WOOD), FARM))
        self.assertEqual(condition("any or (soil wood or use farm)"), ("or", ANY, ("or", WOOD, FARM)))
        self.assertEqual(condition("any and (soil wood and use farm)"), ("and", ANY, ("and", WOOD, FARM)))

    def test_needless_brackets(self):
        self.assertEqual(condition("((soil wood) and ((use farm)))"), ("and", WOOD, FARM))
        self.assertEqual(condition("(" * 20 + "soil wood" + ")" * 20), WOOD)
        self.assertEqual(condition("(" * 20 + "soil wood" + ")" * 20 + " or any"), ("or", WOOD, ANY))

    def test_deep(self):
        expected = ANY
        for k in range(20):
            expected = ("not", expected)
        self.assertEqual(condition("not " * 20 + "any"), expected)
        self.assertEqual(condition("not(" * 20 + "any" + ")" * 20), expected)
        expected = WOOD
        for k in range(20):
            expected = ("or", ANY, expected)
        self.assertEqual(condition("any or (" * 20 + "soil wood" + ")" * 20), expected)

    def test_words_that_begin_like_kept_ones(self):
        self.assertEqual(condition("order andy"), ("is", "order", "andy"))
        self.assertEqual(condition("anyone nothing or o r"), ("or", ("is", "anyone", "nothing"), ("is", "o", "r")))

    def test_names_and_marks_of_any_letters(self):
        self.assertEqual(condition("a z"), ("is", "a", "z"))
        self.assertEqual(condition("abcdefgh zyxwvuts"), ("is", "abcdefgh", "zyxwvuts"))
        self.assertEqual(condition("same same"), ("is", "same", "same"))


class Books(unittest.TestCase):
    def test_numbers(self):
        for text, number in (
            ("0", (0, 1)), ("7", (7, 1)), ("-7", (-7, 1)), ("1/2", (1, 2)), ("-3/2", (-3, 2)), ("999999", (999999, 1)),
            ("-999998/999999", (-999998, 999999)),
        ):
            self.assertEqual(read_book("any : " + text), [(ANY, number)])

    def test_rules_in_their_order(self):
        text = "soil wood : 3\nuse farm : 1/2\nany : -1"
        self.assertEqual(read_book(text), [(WOOD, (3, 1)), (FARM, (1, 2)), (ANY, (-1, 1))])
        self.assertEqual(read_book("any : 1\nany : 1\nany : 2"), [(ANY, (1, 1)), (ANY, (1, 1)), (ANY, (2, 1))])

    def test_rows_that_are_left_out(self):
        for text in ("", "\n", "\n\n\n", " ", "   \n \n", "    "):
            self.assertEqual(read_book(text), [])
        self.assertEqual(read_book("\n  \nany : 1\n\n     \nsoil wood:2\n \n"), [(ANY, (1, 1)), (WOOD, (2, 1))])

    def test_blanks(self):
        whole = [(("and", ("or", WOOD, ANY), ("not", FARM)), (-1, 2))]
        for text in (
            "(soil wood or any) and not use farm : -1/2",
            "(soil wood or any)and not use farm:-1/2",
            "  (  soil   wood  or  any  )  and  not  use  farm  :  -1/2   ",
            "(soil wood or(any))and(not(use farm)):-1/2",
            " ((soil wood)or any)and not(use farm) :-1/2 ",
        ):
            self.assertEqual(read_book(text), whole)

    def test_twenty_rules(self):
        text = "\n".join(f"soil wood : {k}" for k in range(20))
        self.assertEqual(read_book(text), [(WOOD, (k, 1)) for k in range(20)])

    def test_kinds(self):
        book = read_book("not soil wood and any : 1/2")
        self.assertEqual((type(book), type(book[0]), type(book[0][0]), type(book[0][1])), (list, tuple, tuple, tuple))
        self.assertEqual(type(book[0][0][1]), tuple)

    def test_a_new_list_each_time(self):
        read_book("any : 1").clear()
        self.assertEqual(read_book("any : 1"), [(ANY, (1, 1))])


WRONG = {
    "no condition": [": 1", "  : 1", ":1", "() : 1", "not : 1", "(not) : 1"],
    "no colon": ["any 1", "any", "soil wood", "1", "any\t1", "any;1", "any ; 1", "any any 1", "any wood 1", "any - 1", "(any) ) 1"],
    "a second colon": ["any : : 1", "any :: 1", "any : 1 :", ": any : 1", "any : 1 : 2", ":"],
    "a missing bracket": ["(any : 1", "((any) : 1", "not (any : 1", "(any and soil wood : 1", "( : 1", "((((any))) : 1",
                          "any ( : 1", "any (any : 1", "soil wood (( : 1", "any and any ( soil wood : 1"],
    "a loose bracket": ["any) : 1", "(any)) : 1", ")any( : 1", ") : 1", "any () : 1", "any)( : 1", "(any : 1)", "any : (1)"],
    "a name without a mark": ["soil : 1", "soil and any : 1", "any or soil : 1", "(soil) : 1", "not soil : 1", "(soil) wood : 1"],
    "too many words": ["soil wood any : 1", "soil wood lake : 1", "any any : 1", "any soil wood : 1", "soil wood use farm : 1"],
    "nothing between": ["any (any) : 1", "(any)(any) : 1", "(any) any : 1", "soil wood (any) : 1", "any not any : 1"],
    "nothing beside": ["and : 1", "any and : 1", "and any : 1", "any or : 1", "or any : 1", "any and or any : 1", "any or or any : 1",
                       "(and) : 1", "any and (or) : 1", "any and not : 1"],
    "a kept word as a name": ["and wood : 1", "or wood : 1", "any wood : 1", "not wood : 1"],
    "a kept word as a mark": ["soil and : 1", "soil or : 1", "soil any : 1", "soil not : 1", "soil not wood : 1"],
    "nine letters": ["abcdefghi wood : 1", "soil abcdefghi : 1", "soilsoils woodwoods : 1"],
    "other signs": ["Soil wood : 1", "soil Wood : 1", "ANY : 1", "soil wood1 : 1", "soil-a wood : 1", "soil_a wood : 1", "soil,wood : 1",
                    "s\u00f6il wood : 1", "[any] : 1", "{any} : 1", "any & any : 1", "soil=wood : 1", "'any' : 1", "any|any : 1",
                    "soil 1 : 1", "1 wood : 1", "any : 1;", "# any : 1", "any : 1 # so"],
    "other blanks": ["any\t: 1", "any :\t1", "\tany : 1", "any : 1\t", "\t", " \t ", "soil\twood : 1", "any : 1\r", "\r", "any\u00a0: 1",
                     "any : 1\x0b", "any\u2003: 1", "\x0c"],
    "no number": ["any :", "any : ", "any : any", "any : soil wood", "any : -", "any : /", "any : 1/", "any : /2"],
    "a number written otherwise": ["any : 01", "any : -0", "any : 00", "any : +1", "any : 2/4", "any : 3/1", "any : 0/2", "any : 1/0",
                                   "any : 1/-2", "any : --1", "any : 1.5", "any : 1e3", "any : 1_0", "any : 1/02", "any : \u0661",
                                   "any : 1/2/3"],
    "blanks within a number": ["any : - 1", "any : 1 /2", "any : 1/ 2", "any : 1 2", "any : 1 0"],
    "seven figures": ["any : 1000000", "any : -1000000", "any : 1/1000000", "any : 1000001/2", "any : 1234567/7654321"],
    "something behind the number": ["any : 1 any", "any : 1any", "any : 1 1", "any : 1)", "any : 1 soil wood", "any : 1 and any", "any : 1 ("],
}


class Refused(unittest.TestCase):
    def assert_no_rule(self, row, text):
        with self.assertRaises(NoRule) as told:
            read_book(text)
        self.assertEqual(told.exception.row, row, repr(text))

    def test_each_wrong_row(self):
        for reason, rows in WRONG.items():
            for row in rows:
                with self.subTest(reason, row=row):
                    self.assert_no_rule(1, row)
                    self.assert_no_rule(2, "any : 1\n" + row + "\nany : 2")

    def test_all_rows_are_counted(self):
        self.assert_no_rule(4, "\n   \nany : 1\nany\n")
        self.assert_no_rule(5, "\n\n\n\n:")
        self.assert_no_rule(1, "any\n\nany : 1")

    def test_the_first_wrong_row_is_told(self):
        self.assert_no_rule(2, "any : 1\nany : \nany\nsoil : 1")
        self.assert_no_rule(3, "any : 1\n\nsoil : 1\n(any : 1")

    def test_a_rule_in_two_rows(self):
        self.assert_no_rule(1, "any\n: 1")
        self.assert_no_rule(2, "any : 1\nsoil wood and\nany : 1")
        self.assert_no_rule(1, "(any\n) : 1")


class Holds(unittest.TestCase):
    marks = {"soil": "wood", "use": "town"}

    def test_each_form(self):
        for told, expected in (
            (ANY, True), (WOOD, True), (FARM, False), (("not", WOOD), False), (("not", FARM), True), (("not", ANY), False),
            (("and", WOOD, ANY), True), (("and", WOOD, FARM), False), (("and", FARM, WOOD), False), (("and", FARM, FARM), False),
            (("or", WOOD, ANY), True), (("or", WOOD, FARM), True), (("or", FARM, WOOD), True), (("or", FARM, FARM), False),
        ):
            self.assertIs(holds(told, self.marks), expected, told)

    def test_where_the_name_is_lacking(self):
        self.assertIs(holds(WET, self.marks), False)
        self.assertIs(holds(("not", WET), self.marks), True)
        self.assertIs(holds(WOOD, {}), False)
        self.assertIs(holds(ANY, {}), True)

    def test_just_this_mark_for_just_this_name(self):
        self.assertIs(holds(("is", "soil", "town"), self.marks), False)
        self.assertIs(holds(("is", "use", "wood"), self.marks), False)
        self.assertIs(holds(("is", "soil", "woo"), self.marks), False)
        self.assertIs(holds(("is", "soi", "wood"), self.marks), False)

    def test_the_marks_stay(self):
        marks = dict(self.marks)
        holds(condition("not (rain wet or soil wood) and use farm"), marks)
        self.assertEqual(marks, self.marks)


NAMES = ["soil", "use", "rain"]
MARKS = ["wood", "farm", "wet"]


def chance_condition(chance, depth):
    kind = chance.choice(["any", "is", "is", "not", "and", "or"] if depth else ["any", "is"])
    if kind == "any":
        return ANY
    if kind == "is":
        return ("is", chance.choice(NAMES), chance.choice(MARKS))
    count = 1 if kind == "not" else 2
    return (kind,) + tuple(chance_condition(chance, depth - 1) for k in range(count))


def written(chance, told):
    # Brackets where they must stand, and now and then where they needn't.
    kind = told[0]
    if kind in ("any", "is"):
        words = list(told) if kind == "any" else list(told[1:])
    elif kind == "not":
        words = ["not"] + bracketed(chance, told[1], ("and", "or"))
    elif kind == "and":
        words = bracketed(chance, told[1], ("or",)) + ["and"] + bracketed(chance, told[2], ("and", "or"))
    else:
        words = bracketed(chance, told[1], ()) + ["or"] + bracketed(chance, told[2], ("or",))
    return words


def bracketed(chance, told, kinds):
    words = written(chance, told)
    return ["("] + words + [")"] if told[0] in kinds or chance.random() < 0.2 else words


def spaced(chance, words):
    text = " " * chance.choice([0, 0, 1, 3])
    for word, after in itertools.zip_longest(words, words[1:], fillvalue=")"):
        least = 1 if word.isalpha() and after.isalpha() else 0
        text += word + " " * (least + chance.choice([0, 0, 0, 1, 2]))
    return text


def by_python(told, marks):
    kind = told[0]
    if kind == "any":
        return "True"
    if kind == "is":
        return repr((told[1], told[2]) in marks.items())
    if kind == "not":
        return f"(not {by_python(told[1], marks)})"
    return f"({by_python(told[1], marks)} {kind} {by_python(told[2], marks)})"


class ByChance(unittest.TestCase):
    def test_written_and_read(self):
        chance = random.Random(24)
        for k in range(600):
            told = chance_condition(chance, chance.randint(0, 5))
            text = spaced(chance, written(chance, told) + [":", chance.choice(["1", "-2/3"])])
            self.assertEqual(read_book(text)[0][0], told, text)

    def test_holds(self):
        chance = random.Random(25)
        for k in range(600):
            told = chance_condition(chance, chance.randint(0, 5))
            marks = {name: chance.choice(MARKS) for name in chance.sample(NAMES, chance.randint(0, 3))}
            self.assertIs(holds(told, marks), eval(by_python(told, marks)), (told, marks))

    def test_a_word_left_out_or_put_twice(self):
        # What is read, if it is read at all, is written with the same words.
        chance = random.Random(26)
        refused = 0
        for k in range(600):
            words = written(chance, chance_condition(chance, 3))
            n = chance.randrange(len(words))
            words = words[:n] + chance.choice([[], words[n:n + 1] * 2]) + words[n + 1:]
            try:
                told = read_book(" ".join(words) + " : 1")[0][0]
            except NoRule as error:
                self.assertEqual(error.row, 1)
                refused += 1
            else:
                plain = [word for word in words if word not in "()"]
                self.assertEqual([word for word in written(chance, told) if word not in "()"], plain)
        self.assertGreater(refused, 300)


if __name__ == "__main__":
    unittest.main()
