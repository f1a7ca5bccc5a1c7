"""Sides: tuples (a, b) of two unlike spots, and what two have in common."""

from sheetlay.spots import ahead, crossed, in_order, spot, turn


def forward(side):
    if ahead(side[0], side[1]):
        return side
    return (side[1], side[0])


def on_side(p, side):
    if turn(side[0], side[1], p) != 0:
        return False
    # Along one row, being ahead tells the order of the spots on it.
    ends = forward(side)
    return not ahead(p, ends[0]) and not ahead(ends[1], p)


def turns_to(side, other):
    return [turn(side[0], side[1], p) for p in other]


def common_in_row(one, other):
    left = forward(one)
    right = forward(other)
    p = right[0] if ahead(left[0], right[0]) else left[0]
    q = left[1] if ahead(left[1], right[1]) else right[1]
    if p == q:
        return ("spot", p)
    return ("stretch", p, q) if ahead(p, q) else None


def crossing(one, other):
    meet = crossed(crossed(one[0], one[1]), crossed(other[0], other[1]))
    return spot(meet[0], meet[1], meet[2])


def common(one, other):
    turns = turns_to(one, other)
    if turns == [0, 0]:
        return common_in_row(one, other)
    back = turns_to(other, one)
    # Not in one row, they meet just where neither lies wholly on one hand
    # of the other; then their rows aren't parallel, and cross in one spot.
    if turns[0] * turns[1] > 0 or back[0] * back[1] > 0:
        return None
    return ("spot", crossing(one, other))


def along(side, some):
    found = {}
    for p in some:
        if on_side(p, side):
            found[p] = True
    if ahead(side[0], side[1]):
        return in_order(list(found), ahead)
    return in_order(list(found), lambda p, q: ahead(q, p))
