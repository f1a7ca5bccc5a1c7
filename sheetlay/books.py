"""Books of rules: what the land is worth by them."""

from sheetlay.numbers import plus, times
from sheetlay.rules import holds
from sheetlay.sums import face_area, marks_of


def first_holding(book, marks):
    for k in range(len(book)):
        if holds(book[k][0], marks):
            return k
    return None


def worth(book, marks):
    k = first_holding(book, marks)
    return (0, 1) if k is None else book[k][1]


def land_worth(lay, book):
    total = (0, 1)
    for n in range(len(lay.faces)):
        total = plus(total, times(face_area(lay, n), worth(book, marks_of(lay, n))))
    return total


def with_name(choices, name, marks):
    found = []
    for choice in choices:
        for mark in marks:
            grown = dict(choice)
            grown[name] = mark
            found.append(grown)
    return found


def choices_of(kinds):
    choices = [{}]
    for name in kinds:
        choices = with_name(choices, name, kinds[name])
    return choices


def counting(book, kinds):
    found = [None for rule in book]
    for choice in choices_of(kinds):
        k = first_holding(book, choice)
        if k is not None:
            found[k] = choice
    return found


def leaner(book, kinds):
    return [rule for rule, choice in zip(book, counting(book, kinds)) if choice is not None]


def parted(one, other, kinds):
    for choice in choices_of(kinds):
        if worth(one, choice) != worth(other, choice):
            return choice
    return None
