"""The refusals: how they stand under one another, and their fields."""

import unittest

from sheetlay import errors

# Each refusal with the fields that it is made of, in their order.
REFUSALS = {
    "BadFace": ("face",),
    "Twice": ("one", "other"),
    "NoLand": (),
    "NoText": ("line",),
    "NoPile": ("one", "other"),
    "NoRule": ("row",),
    "NoPath": (),
    "NoJoin": (),
    "NoRow": (),
    "NoName": ("name",),
}

VALUES = ("field", "wood", "", "a b", 0, 1, -7, 10 ** 30, -(10 ** 40))


def refusal(name):
    return getattr(errors, name)


class Refusals(unittest.TestCase):
    def test_any_refusal_is_a_value_error(self):
        self.assertTrue(issubclass(errors.SheetError, ValueError))
        self.assertIsNot(errors.SheetError, ValueError)

    def test_each_stands_under_sheet_error(self):
        for name in REFUSALS:
            with self.subTest(name):
                self.assertTrue(issubclass(refusal(name), errors.SheetError))
                self.assertTrue(issubclass(refusal(name), ValueError))
                self.assertIsNot(refusal(name), errors.SheetError)

    def test_none_stands_under_another_one(self):
        for name in REFUSALS:
            for other in REFUSALS:
                with self.subTest(name=name, other=other):
                    self.assertEqual(issubclass(refusal(name), refusal(other)), name == other)

    def test_fields_are_what_it_was_made_of(self):
        for name, fields in REFUSALS.items():
            for shift in range(len(VALUES)):
                made = [VALUES[(shift + k) % len(VALUES)] for k in range(len(fields))]
                with self.subTest(name=name, made=made):
                    error = refusal(name)(*made)
                    self.assertEqual(vars(error), dict(zip(fields, made)))
                    for field, value in zip(fields, made):
                        self.assertIs(type(getattr(error, field)), type(value))

    def test_two_of_one_kind_have_fields_of_their_own(self):
        one = errors.Twice("a", "b")
        other = errors.Twice("c", "d")
        self.assertEqual((one.one, one.other), ("a", "b"))
        self.assertEqual((other.one, other.other), ("c", "d"))

    def test_each_can_be_raised_and_taken_by_its_name(self):
        for name, fields in REFUSALS.items():
            with self.subTest(name):
                with self.assertRaises(refusal(name)) as taken:
                    raise refusal(name)(*fields)
                self.assertIs(type(taken.exception), refusal(name))

    def test_each_can_be_taken_as_any_refusal(self):
        for name, fields in REFUSALS.items():
            with self.subTest(name):
                with self.assertRaises(errors.SheetError):
                    raise refusal(name)(*fields)


if __name__ == "__main__":
    unittest.main()
