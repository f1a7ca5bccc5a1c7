"""Webs: lists of sides that have nothing in common but ends."""

from sheetlay.loops import area, loop_ahead, turned
from sheetlay.spots import ahead, in_order, is_below, turn


def in_first_half(b, p):
    if is_below(b, p):
        return True
    return not is_below(p, b) and ahead(b, p)


def met_first(b, p, q):
    # Within one half turn, what is met first has the other one at its left.
    early = in_first_half(b, p)
    if early != in_first_half(b, q):
        return early
    return turn(b, p, q) == 1


def round_about(b, some):
    return in_order(some, lambda p, q: met_first(b, p, q))


def joined_spots(web):
    joined = {}
    for a, b in web:
        joined.setdefault(a, []).append(b)
        joined.setdefault(b, []).append(a)
    return joined


def next_goings(web):
    onward = {}
    joined = joined_spots(web)
    for b in joined:
        ring = round_about(b, joined[b])
        # The ring turns left, so the first one met turning right from a
        # spot is the one ahead of it, and the last one for the first.
        for k in range(len(ring)):
            onward[(ring[k], b)] = (b, ring[k - 1])
    return onward


def goings_from(start, onward):
    goings = [start]
    going = onward[start]
    while going != start:
        goings.append(going)
        going = onward[going]
    return goings


def all_loops(onward):
    loops = []
    gone = {}
    for start in onward:
        if start not in gone:
            goings = goings_from(start, onward)
            for going in goings:
                gone[going] = True
            loops.append(turned(tuple([a for a, b in goings])))
    return loops


def loops_of(web):
    inner = []
    outer = None
    for loop in all_loops(next_goings(web)):
        if area(loop)[0] < 0:
            outer = loop
        else:
            inner.append(loop)
    return (in_order(inner, loop_ahead), outer)
