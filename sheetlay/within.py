"""A spot within a loop."""

from sheetlay.loops import sides_of
from sheetlay.numbers import less, number, plus, times
from sheetlay.spots import ahead, crossed, in_order, spot


def height(p):
    return number(p[1], p[2])


def level_between(loop):
    heights = in_order([height(p) for p in loop], less)
    low = heights[0]
    above = [high for high in heights if high != low]
    return times(plus(low, above[0]), (1, 2))


def met_at_level(loop, level):
    # The row of all spots at this height, as crossed tells rows.
    row = (0, level[1], -level[0])
    met = []
    for a, b in sides_of(loop):
        if less(height(a), level) != less(height(b), level):
            found = crossed(crossed(a, b), row)
            met.append(spot(found[0], found[1], found[2]))
    return in_order(met, ahead)


def midway(p, q):
    return spot(p[0] * q[2] + q[0] * p[2], p[1] * q[2] + q[1] * p[2], 2 * p[2] * q[2])


def spot_in(loop):
    # At a level with no corner the sides stand apart, and coming from the
    # left the first one that is passed leads inside.
    met = met_at_level(loop, level_between(loop))
    return midway(met[0], met[1])
