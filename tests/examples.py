"""Webs and sheets to test with, plain ones and ones made by chance."""

import itertools
import random

from by_fractions import common_by_shares
from sheetlay.spots import spot


def loop(*places):
    return tuple(spot(*p) for p in places)


def box(left, low, right, high):
    return loop((left, low), (right, low), (right, high), (left, high))


def touches_in_ends_alone(side, other):
    met = common_by_shares(side, other)
    return met is None or (met[0] == "spot" and met[1] in side and met[1] in other)


def is_web(sides):
    if any(a == b for a, b in sides) or len({frozenset(side) for side in sides}) < len(sides):
        return False
    return all(touches_in_ends_alone(one, other) for one, other in itertools.combinations(sides, 2))


def chance_web(chance, size, tries):
    # Ear by ear: each goes from a spot of the web to one of its spots, or
    # back to the same, so that a block hangs there.
    some = [spot(x, y) for x in range(size) for y in range(size)]
    corners = box(0, 0, size - 1, size - 1)[chance.randint(0, 1):]
    web = list(zip(corners, corners[1:] + corners[:1]))
    for k in range(tries):
        ends = [chance.choice(chance.choice(web)) for end in (0, 1)]
        if chance.random() < 0.5:
            ends[1] = ends[0]
        path = ends[:1] + chance.sample(some, chance.randint(0, 2)) + ends[1:]
        ear = [tuple(path[j:j + 2]) for j in range(len(path) - 1)]
        if is_web(web + ear):
            web = web + ear
    return web


def chance_webs(seed, count, size=6, tries=40):
    chance = random.Random(seed)
    return [chance_web(chance, size, tries) for k in range(count)]
