"""A lay that is kept while its sheets are changed."""

from sheetlay.changes import joined, marked, split
from sheetlay.errors import NoName
from sheetlay.lays import Lay
from sheetlay.sheets import copied


def place_of(sheets, name):
    for k in range(len(sheets)):
        if sheets[k].name == name:
            return k
    raise NoName(name)


def numbers_of(faces, before, given):
    # From each face to its number, the one it had or one not yet given.
    numbers = {}
    for face in faces:
        if face in before:
            numbers[face] = before[face]
        else:
            numbers[face] = given
            given = given + 1
    return numbers


def numbers_without(numbers, others):
    return sorted([numbers[face] for face in numbers if face not in others])


class Kept:
    def __init__(self, sheets):
        self.laid = Lay(sheets)
        self.numbers = numbers_of(self.laid.faces, {}, 0)
        self.given = len(self.numbers)

    def pile(self):
        return [copied(sheet) for sheet in self.laid.sheets]

    def lay(self):
        return Lay(self.laid.sheets)

    def numbered(self):
        faces = dict([(n, face) for face, n in self.numbers.items()])
        return dict([(n, faces[n]) for n in sorted(faces)])

    def put(self, k, sheet):
        sheets = list(self.laid.sheets)
        sheets[k] = sheet
        laid = Lay(sheets)
        numbers = numbers_of(laid.faces, self.numbers, self.given)
        went = numbers_without(self.numbers, numbers)
        came = numbers_without(numbers, self.numbers)
        self.laid = laid
        self.numbers = numbers
        self.given = self.given + len(came)
        return (went, came)

    def mark(self, name, face, mark):
        k = place_of(self.laid.sheets, name)
        return self.put(k, marked(self.laid.sheets[k], face, mark))

    def split(self, name, face, path, word, mark):
        k = place_of(self.laid.sheets, name)
        return self.put(k, split(self.laid.sheets[k], face, path, word, mark))

    def join(self, name, one, other):
        k = place_of(self.laid.sheets, name)
        return self.put(k, joined(self.laid.sheets[k], one, other))
