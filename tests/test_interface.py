"""The names, arguments and defaults of the interface, module by module."""

import importlib
import inspect
import operator
import unittest

FUNCTIONS = {
    "numbers": {
        "number": "(n, d=1)",
        "plus": "(a, b)",
        "minus": "(a, b)",
        "times": "(a, b)",
        "less": "(a, b)",
        "number_text": "(a)",
    },
    "spots": {
        "spot": "(x, y, w=1)",
        "ahead": "(p, q)",
        "turn": "(a, b, c)",
        "in_order": "(some, first)",
    },
    "sides": {
        "on_side": "(p, side)",
        "common": "(one, other)",
        "along": "(side, some)",
    },
    "loops": {
        "sides_of": "(loop)",
        "area": "(loop)",
        "is_simple": "(loop)",
        "turned": "(loop)",
        "where": "(loop, p)",
        "loop_ahead": "(one, other)",
    },
    "webs": {
        "round_about": "(b, some)",
        "loops_of": "(web)",
    },
    "within": {
        "spot_in": "(loop)",
    },
    "sheettexts": {
        "sheet_text": "(sheet)",
        "read_sheet": "(text)",
    },
    "pieces": {
        "pieces": "(sides)",
        "piece_paper": "(sides)",
    },
    "sums": {
        "marks_of": "(lay, n)",
        "face_area": "(lay, n)",
        "summed": "(lay, names)",
        "sheet_summed": "(sheet)",
    },
    "rules": {
        "read_book": "(text)",
        "holds": "(condition, marks)",
    },
    "books": {
        "worth": "(book, marks)",
        "land_worth": "(lay, book)",
        "counting": "(book, kinds)",
        "leaner": "(book, kinds)",
        "parted": "(one, other, kinds)",
    },
    "melting": {
        "patches": "(lay, keys)",
        "melt_paper": "(lay, keys)",
        "keys_by": "(lay, names)",
    },
    "distance": {
        "square": "(p, side)",
    },
    "plainer": {
        "can_go": "(sheet, p, far)",
        "plainer": "(sheet, far)",
    },
    "changes": {
        "marked": "(sheet, face, mark)",
        "split": "(sheet, face, path, word, mark)",
        "joined": "(sheet, one, other)",
    },
}

CLASSES = {
    "sheets": {
        "Sheet": "(name, faces)",
        "Sheet.border": "(self)",
        "Sheet.land": "(self)",
        "Sheet.told": "(self, word)",
        "Sheet.faces_at": "(self, p)",
    },
    "lays": {
        "Lay": "(sheets)",
        "Lay.paper": "(self)",
        "Lay.face_at": "(self, p)",
    },
    "kept": {
        "Kept": "(sheets)",
        "Kept.pile": "(self)",
        "Kept.lay": "(self)",
        "Kept.numbered": "(self)",
        "Kept.mark": "(self, name, face, mark)",
        "Kept.split": "(self, name, face, path, word, mark)",
        "Kept.join": "(self, name, one, other)",
    },
    "desk": {
        "Desk": "()",
        "Desk.say": "(self, row)",
    },
}

ERRORS = {
    "BadFace": "(face)",
    "Twice": "(one, other)",
    "NoText": "(line)",
    "NoPile": "(one, other)",
    "NoRule": "(row)",
    "NoName": "(name)",
}


def module(name):
    return importlib.import_module("sheetlay." + name)


class Interface(unittest.TestCase):
    def test_functions(self):
        for name, functions in FUNCTIONS.items():
            for function, arguments in functions.items():
                with self.subTest(module=name, function=function):
                    told = inspect.signature(getattr(module(name), function))
                    self.assertEqual(str(told), arguments)

    def test_classes_and_their_methods(self):
        for name, things in CLASSES.items():
            for thing, arguments in things.items():
                with self.subTest(module=name, thing=thing):
                    told = inspect.signature(operator.attrgetter(thing)(module(name)))
                    self.assertEqual(str(told), arguments)

    def test_errors(self):
        for error, arguments in ERRORS.items():
            with self.subTest(error):
                told = inspect.signature(getattr(module("errors"), error))
                self.assertEqual(str(told), arguments)


if __name__ == "__main__":
    unittest.main()
