"""Loops: tuples of three spots or more, each unlike the next one."""

from sheetlay.numbers import number, plus, times
from sheetlay.sides import common, on_side
from sheetlay.spots import ahead, is_below, turn


def sides_of(loop):
    return list(zip(loop, loop[1:] + loop[:1]))


def area(loop):
    twofold = (0, 1)
    for a, b in sides_of(loop):
        twofold = plus(twofold, number(a[0] * b[1] - b[0] * a[1], a[2] * b[2]))
    return times(twofold, (1, 2))


def keeps_apart(sides, k):
    # Held against those ahead of it alone, each two sides are met once. The
    # side just ahead is left out, and the first one behind which the last
    # comes: with these a side has a spot in common.
    start = 1 if k == len(sides) - 1 else 0
    return all([common(sides[j], sides[k]) is None for j in range(start, k - 1)])


def is_simple(loop):
    if len(loop) < 3 or len(set(loop)) != len(loop):
        return False
    sides = sides_of(loop)
    for k in range(len(sides)):
        if common(sides[k - 1], sides[k]) != ("spot", sides[k][0]) or not keeps_apart(sides, k):
            return False
    return True


def loop_ahead(one, other):
    for p, q in zip(one, other):
        if p != q:
            return ahead(p, q)
    return False


def turned(loop):
    best = loop
    for k in range(1, len(loop)):
        told = loop[k:] + loop[:k]
        if loop_ahead(told, best):
            best = told
    return best


def rounds_by(side, p):
    # Counted are the sides that pass straight right of p, up or down. What
    # is level with p counts as above it, so that a corner there is passed
    # just where the loop goes on to the other hand of that row.
    upward = is_below(side[0], p)
    if upward == is_below(side[1], p):
        return 0
    if turn(side[0], side[1], p) == 1:
        return 1 if upward else 0
    return 0 if upward else -1


def where(loop, p):
    rounds = 0
    for side in sides_of(loop):
        if on_side(p, side):
            return 0
        rounds = rounds + rounds_by(side, p)
    return -1 if rounds == 0 else 1
