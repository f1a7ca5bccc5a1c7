"""Borders made plainer: spots that can go, and the chains they leave."""

from sheetlay.distance import square
from sheetlay.loops import loop_ahead, sides_of, where
from sheetlay.numbers import less, times
from sheetlay.sheets import Sheet
from sheetlay.sides import forward
from sheetlay.spots import ahead, in_order
from sheetlay.webs import joined_spots


def chains_of(sheet):
    # From each side, the end ahead first, to its chain from there on.
    chains = {}
    for word, mark, loop in sheet.faces:
        for side in sides_of(loop):
            chains[forward(side)] = forward(side)
    return chains


def chain_along(chains, a, b):
    side = forward((a, b))
    return chains[side] if side == (a, b) else tuple(reversed(chains[side]))


def chain_over(chains, a, p, b):
    return chain_along(chains, a, p) + chain_along(chains, p, b)[1:]


def lies_at(q, a, p, b):
    # Of three in one row the triangle has nothing inside, and its border is
    # the side from a to b.
    return where((a, p, b), q) >= 0


def is_near(chain, side, far):
    most = times(far, far)
    return all([not less(most, square(q, side)) for q in chain])


def goes(chains, joined, border, p, far):
    if p in border or len(joined.get(p, [])) != 2:
        return False
    a = joined[p][0]
    b = joined[p][1]
    if b in joined[a] or any([lies_at(q, a, p, b) for q in joined if q not in (a, p, b)]):
        return False
    return is_near(chain_over(chains, a, p, b), (a, b), far)


def first_to_go(chains, border, far):
    joined = joined_spots(list(chains))
    for p in in_order(list(joined), ahead):
        if goes(chains, joined, border, p, far):
            return p
    return None


def chains_without(chains, p):
    near = joined_spots(list(chains))[p]
    side = forward((near[0], near[1]))
    left = dict([(other, chains[other]) for other in chains if p not in other])
    left[side] = chain_over(chains, side[0], p, side[1])
    return left


def sheet_of_chains(sheet, chains):
    left = joined_spots(list(chains))
    faces = [(word, mark, tuple([p for p in loop if p in left])) for word, mark, loop in sheet.faces]
    return Sheet(sheet.name, faces)


def chain_paper(chains):
    return [side + (chains[side],) for side in in_order(list(chains), loop_ahead) if len(chains[side]) > 2]


def can_go(sheet, p, far):
    chains = chains_of(sheet)
    return goes(chains, joined_spots(list(chains)), sheet.border(), p, far)


def plainer(sheet, far):
    chains = chains_of(sheet)
    border = sheet.border()
    p = first_to_go(chains, border, far)
    while p is not None:
        chains = chains_without(chains, p)
        p = first_to_go(chains, border, far)
    return (sheet_of_chains(sheet, chains), chain_paper(chains))
