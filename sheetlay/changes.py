"""Changes of a sheet, each a new sheet: marked, split, joined."""

from sheetlay.errors import NoJoin, NoPath
from sheetlay.loops import is_simple, sides_of, where
from sheetlay.sheets import Sheet
from sheetlay.sides import common
from sheetlay.within import midway


def faces_with(sheet, word, told):
    return [told if face[0] == word else face for face in sheet.faces]


def marked(sheet, face, mark):
    found = sheet.told(face)
    return Sheet(sheet.name, faces_with(sheet, face, (face, mark, found[2])))


def between(loop, p, q):
    # The spots that a loop has on its way from p to q, without these two.
    k = loop.index(p)
    onward = loop[k:] + loop[:k]
    return onward[1:onward.index(q)]


def meets_nothing(way, loop, ends):
    met = [common(way, side) for side in sides_of(loop)]
    allowed = [None] + [("spot", p) for p in ends]
    return all([found in allowed for found in met])


def is_inside(path, loop):
    ends = (path[0], path[-1])
    for a, b in zip(path, path[1:]):
        if not meets_nothing((a, b), loop, ends) or where(loop, midway(a, b)) != 1:
            return False
    return True


def is_path(path, loop):
    if len(path) < 2 or len(set(path)) != len(path) or path[0] not in loop or path[-1] not in loop:
        return False
    # Inside the loop, the path keeps from itself, and from its own ends, just
    # where it makes a simple loop together with what is left of the old one.
    return is_inside(path, loop) and is_simple(path + between(loop, path[-1], path[0]))


def split(sheet, face, path, word, mark):
    found = sheet.told(face)
    loop = found[2]
    words = [told[0] for told in sheet.faces]
    if word in words or len(words) >= 12 or not is_path(path, loop):
        raise NoPath()
    left = path + between(loop, path[-1], path[0])
    right = tuple(reversed(path)) + between(loop, path[0], path[-1])
    return Sheet(sheet.name, faces_with(sheet, face, (face, found[1], left)) + [(word, mark, right)])


def chain_ends(one, other):
    # The first and the last spot of the chain that two loops have, as one
    # goes, or None. A chain that is all of a loop begins nowhere.
    back = sides_of(other)
    chain = [(a, b) for a, b in sides_of(one) if (b, a) in back]
    starts = [a for a, b in chain]
    stops = [b for a, b in chain]
    first = [a for a in starts if a not in stops]
    last = [b for b in stops if b not in starts]
    return (first[0], last[0]) if len(first) == 1 else None


def joined_loop(one, other):
    ends = chain_ends(one, other)
    if ends is None:
        raise NoJoin()
    first = ends[0]
    last = ends[1]
    loop = (last,) + between(one, last, first) + (first,) + between(other, first, last)
    if not is_simple(loop):
        raise NoJoin()
    return loop


def joined(sheet, one, other):
    found = sheet.told(one)
    loop = joined_loop(found[2], sheet.told(other)[2])
    faces = faces_with(sheet, one, (one, found[1], loop))
    return Sheet(sheet.name, [face for face in faces if face[0] != other])
