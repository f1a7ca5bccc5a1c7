"""Areas summed by marks."""

from sheetlay.loops import area
from sheetlay.numbers import plus


def marks_of(lay, n):
    marks = {}
    for sheet, word in zip(lay.sheets, lay.faces[n][1]):
        marks[sheet.name] = sheet.told(word)[1]
    return marks


def face_area(lay, n):
    return area(lay.faces[n][0])


def sums_by_key(some):
    sums = {}
    for key, amount in some:
        sums[key] = plus(sums.get(key, (0, 1)), amount)
    return [(key, sums[key]) for key in sorted(sums)]


def summed(lay, names):
    some = []
    for n in range(len(lay.faces)):
        marks = marks_of(lay, n)
        some.append((tuple([marks[name] for name in names]), face_area(lay, n)))
    return sums_by_key(some)


def sheet_summed(sheet):
    return sums_by_key([(mark, area(loop)) for word, mark, loop in sheet.faces])
