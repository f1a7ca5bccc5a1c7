"""Sides cut to pieces wherever they meet."""

from sheetlay.loops import loop_ahead
from sheetlay.sides import along, common, forward
from sheetlay.spots import in_order


def corners_on(sides):
    # What a side has in common with another one begins and ends at corners,
    # and no other corner lies on it: where two cross amid a stretch that a
    # third has in common with one of them, it meets the other there.
    found = [list(side) for side in sides]
    for k in range(len(sides)):
        for j in range(k):
            met = common(sides[j], sides[k])
            if met is not None:
                found[j].extend(met[1:])
                found[k].extend(met[1:])
    return found


def numbers_by_side(sides):
    # Sides that are alike, or the one the other turned about, are cut once.
    found = {}
    for k in range(len(sides)):
        found.setdefault(forward(sides[k]), []).append(k)
    return found


def cut(sides):
    # From each piece, in order, to the numbers of the sides it lies on.
    lying = {}
    numbers = numbers_by_side(sides)
    found = corners_on(list(numbers))
    for side, corners in zip(numbers, found):
        spots = along(side, corners)
        for piece in zip(spots, spots[1:]):
            lying.setdefault(piece, []).extend(numbers[side])
    return dict([(piece, sorted(lying[piece])) for piece in in_order(list(lying), loop_ahead)])


def pieces(sides):
    return list(cut(sides))


def piece_paper(sides):
    return list(cut(sides).values())
