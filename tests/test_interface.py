"""The names, arguments and defaults of the interface, module by module."""

import importlib
import inspect
import unittest

FUNCTIONS = {
    "numbers": {
        "number": "(n, d=1)",
        "plus": "(a, b)",
        "minus": "(a, b)",
        "times": "(a, b)",
        "less": "(a, b)",
        "number_text": "(a)",
    },
    "spots": {
        "spot": "(x, y, w=1)",
        "ahead": "(p, q)",
        "turn": "(a, b, c)",
        "in_order": "(some, first)",
    },
    "sides": {
        "on_side": "(p, side)",
        "common": "(one, other)",
        "along": "(side, some)",
    },
}

ERRORS = {
    "BadFace": "(face)",
    "Twice": "(one, other)",
    "NoText": "(line)",
    "NoPile": "(one, other)",
    "NoRule": "(row)",
    "NoName": "(name)",
}


def module(name):
    return importlib.import_module("sheetlay." + name)


class Interface(unittest.TestCase):
    def test_functions(self):
        for name, functions in FUNCTIONS.items():
            for function, arguments in functions.items():
                with self.subTest(module=name, function=function):
                    told = inspect.signature(getattr(module(name), function))
                    self.assertEqual(str(told), arguments)

    def test_errors(self):
        for error, arguments in ERRORS.items():
            with self.subTest(error):
                told = inspect.signature(getattr(module("errors"), error))
                self.assertEqual(str(told), arguments)


if __name__ == "__main__":
    unittest.main()
