"""Webs and sheets to test with, plain ones and ones made by chance."""

import itertools
import random
from fractions import Fraction

from by_fractions import common_by_shares, goings_of, place, rotations, spot_at, where_by_places
from sheetlay.sheets import Sheet
from sheetlay.spots import spot

NAMES = ["soil", "use", "rain", "owner"]
WORDS = ["a", "bb", "c", "dd", "e", "ff", "g", "hh", "i", "jj", "k", "ll"]
MARKS = ["wood", "lake", "moor"]


def loop(*places):
    return tuple(spot(*p) for p in places)


def box(left, low, right, high):
    return loop((left, low), (right, low), (right, high), (left, high))


def touches_in_ends_alone(side, other):
    met = common_by_shares(side, other)
    return met is None or (met[0] == "spot" and met[1] in side and met[1] in other)


def is_web(sides):
    if any(a == b for a, b in sides) or len({frozenset(side) for side in sides}) < len(sides):
        return False
    return all(touches_in_ends_alone(one, other) for one, other in itertools.combinations(sides, 2))


def chance_web(chance, size, tries):
    # Ear by ear: each goes from a spot of the web to one of its spots, or
    # back to the same, so that a block hangs there.
    some = [spot(x, y) for x in range(size) for y in range(size)]
    corners = box(0, 0, size - 1, size - 1)[chance.randint(0, 1):]
    web = list(zip(corners, corners[1:] + corners[:1]))
    for k in range(tries):
        ends = [chance.choice(chance.choice(web)) for end in (0, 1)]
        if chance.random() < 0.5:
            ends[1] = ends[0]
        path = ends[:1] + chance.sample(some, chance.randint(0, 2)) + ends[1:]
        ear = [tuple(path[j:j + 2]) for j in range(len(path) - 1)]
        if is_web(web + ear):
            web = web + ear
    return web


def chance_webs(seed, count, size=6, tries=40):
    chance = random.Random(seed)
    return [chance_web(chance, size, tries) for k in range(count)]


def amid(a, b, share):
    (x, y), (u, v) = place(a), place(b)
    return spot_at(x + share * (u - x), y + share * (v - y))


def is_inside(path, some):
    # Whether all of the path but its two ends is inside the loop.
    ways = list(zip(path, path[1:]))
    for k, way in enumerate(ways):
        ends = path[:1] * (k == 0) + path[-1:] * (k == len(ways) - 1)
        for side in goings_of(some):
            met = common_by_shares(way, side)
            if met is not None and (met[0] != "spot" or met[1] not in ends):
                return False
    return where_by_places(some, amid(path[0], path[1], Fraction(1, 2))) == 1


def is_open_path(path):
    if len(set(path)) < len(path):
        return False
    ways = list(enumerate(zip(path, path[1:])))
    return all(
        common_by_shares(one, other) == (("spot", one[1]) if j == k + 1 else None)
        for (k, one), (j, other) in itertools.combinations(ways, 2)
    )


def split_of(some, path):
    # The two loops that a path from spot to spot of a loop makes of it, or
    # None where it is no such path.
    if not is_open_path(path) or not is_inside(path, some):
        return None
    start = some.index(path[0])
    onward = some[start:] + some[:start]
    stop = onward.index(path[-1])
    return (tuple(path) + onward[stop + 1:], tuple(path[::-1]) + onward[1:stop])


def with_spot(some, side, p):
    # A loop with p put amid a side of it, whichever way the loop goes there.
    for k, going in enumerate(goings_of(some)):
        if going in (side, side[::-1]):
            return some[:k + 1] + (p,) + some[k + 1:]
    return some


def chance_spot_of(chance, loops, n):
    side = chance.choice(goings_of(loops[n]))
    if chance.random() < 0.4:
        return loops, side[0]
    p = amid(side[0], side[1], Fraction(chance.randint(1, 3), 4))
    return [with_spot(some, side, p) for some in loops], p


def chance_bends(chance, some):
    lows = [min(place(p)[k] for p in some) for k in (0, 1)]
    highs = [max(place(p)[k] for p in some) for k in (0, 1)]
    shares = [Fraction(k, 6) for k in range(1, 6)]
    return [
        spot_at(*[lows[k] + chance.choice(shares) * (highs[k] - lows[k]) for k in (0, 1)])
        for bend in range(chance.randint(0, 2))
    ]


def chance_path(chance, some):
    # Often from spot to spot of the loop, now and then from amid a side.
    ends = [chance.choice(some) for end in (0, 1)]
    if chance.random() < 0.1:
        side = chance.choice(goings_of(some))
        ends[chance.randint(0, 1)] = amid(side[0], side[1], Fraction(chance.randint(1, 3), 4))
    return tuple(ends[:1] + chance_bends(chance, some) + ends[1:])


def chance_loops(chance, loops, count):
    # Split by paths, again and again.
    for k in range(20 * count):
        if len(loops) >= count:
            break
        n = chance.randrange(len(loops))
        tried, start = chance_spot_of(chance, loops, n)
        tried, stop = chance_spot_of(chance, tried, n)
        parts = split_of(tried[n], [start] + chance_bends(chance, tried[n]) + [stop])
        if parts is not None and max(len(some) for some in parts) <= 24:
            loops = tried[:n] + tried[n + 1:] + list(parts)
    return loops


def chance_faces(chance, loops):
    loops = [chance.choice(rotations(some)) for some in loops]
    chance.shuffle(loops)
    return [(WORDS[k], chance.choice(MARKS), some) for k, some in enumerate(loops)]


def chance_pile(seed, land, counts):
    # Split first in two alike for all, so that the sheets have sides that
    # lie upon one another, then each in its own way.
    chance = random.Random(seed)
    base = chance_loops(chance, [land], 1 + seed % 2)
    piles = [chance_faces(chance, chance_loops(chance, base, count)) for count in counts]
    return [Sheet(name, faces) for name, faces in zip(NAMES, piles)]
