"""Sheets: maps of a land, with faces that fill it."""

from sheetlay.errors import BadFace, NoLand, NoName, Twice
from sheetlay.loops import area, is_simple, sides_of, turned, where
from sheetlay.spots import turn


def refuse_bad_faces(faces):
    seen = {}
    for face, mark, loop in faces:
        if face in seen or not is_simple(loop) or area(loop)[0] <= 0:
            raise BadFace(face)
        seen[face] = True


def refuse_twofold_goings(faces):
    goers = {}
    for k in range(len(faces)):
        goings = sides_of(faces[k][2])
        earlier = [goers[going] for going in goings if going in goers]
        if earlier:
            raise Twice(faces[min(earlier)][0], faces[k][0])
        for going in goings:
            goers[going] = k


def border_goings(faces):
    goings = {}
    for face, mark, loop in faces:
        for going in sides_of(loop):
            goings[going] = True
    return [(a, b) for a, b in goings if (b, a) not in goings]


def loop_along(goings):
    onward = dict(goings)
    spots = []
    p = goings[0][0] if goings else None
    while p in onward:
        spots.append(p)
        p = onward.pop(p)
    return tuple(spots)


def border_of(faces):
    goings = border_goings(faces)
    loop = loop_along(goings)
    # Where a spot has two goings on, or some lie apart, fewer are met.
    if len(loop) != len(goings) or not is_simple(loop):
        raise NoLand()
    return turned(loop)


def without_straight_spots(loop):
    onward = loop[1:] + loop[:1]
    return tuple([loop[k] for k in range(len(loop)) if turn(loop[k - 1], loop[k], onward[k]) != 0])


class Sheet:
    def __init__(self, name, faces):
        self.name = name
        self.faces = list(faces)
        refuse_bad_faces(self.faces)
        refuse_twofold_goings(self.faces)
        self.rim = border_of(self.faces)

    def border(self):
        return self.rim

    def land(self):
        # The spot that is ahead of all others is never straight, so what is
        # left of the turned border is turned, too.
        return without_straight_spots(self.rim)

    def told(self, word):
        for found in self.faces:
            if found[0] == word:
                return found
        raise NoName(word)

    def faces_at(self, p):
        return [face for face, mark, loop in self.faces if where(loop, p) >= 0]


def copied(sheet):
    # What keeps a sheet keeps one of its own, which nobody else can change.
    return Sheet(sheet.name, sheet.faces)
