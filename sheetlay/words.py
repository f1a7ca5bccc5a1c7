"""Words, numbers and spots as they stand in texts."""

from sheetlay.numbers import number, number_text
from sheetlay.spots import spot

LETTERS = "abcdefghijklmnopqrstuvwxyz"
FIGURES = "0123456789"


def is_made_of(signs, text, most):
    return 1 <= len(text) <= most and all([sign in signs for sign in text])


def is_word(text):
    return is_made_of(LETTERS, text, 8)


def read_number(text):
    parts = text.partition("/")
    above = parts[0][1:] if text.startswith("-") else parts[0]
    below = parts[2] if parts[1] else "1"
    if not is_made_of(FIGURES, above, 6) or not is_made_of(FIGURES, below, 6) or int(below) == 0:
        return None
    told = number(-int(above) if text.startswith("-") else int(above), int(below))
    # There is one way to write a number: another one comes out otherwise.
    return told if number_text(told) == text else None


def read_spot(text):
    parts = text.partition(",")
    x = read_number(parts[0])
    y = read_number(parts[2])
    if x is None or y is None:
        return None
    return spot(x[0] * y[1], y[0] * x[1], x[1] * y[1])


def spot_text(p):
    return number_text(number(p[0], p[2])) + "," + number_text(number(p[1], p[2]))
