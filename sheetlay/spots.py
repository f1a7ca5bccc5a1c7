"""Spots: tuples (x, y, w) in lowest form, w from 1 on, at x/w, y/w."""

from sheetlay.numbers import divisor


def spot(x, y, w=1):
    shared = divisor(divisor(x, w), y)
    # Divided by a shared part of w's own sign, w comes out above 0.
    if w < 0:
        shared = -shared
    return (x // shared, y // shared, w // shared)


def is_below(p, q):
    # Multiplied by both w, which are above 0, places are compared whole.
    return p[1] * q[2] < q[1] * p[2]


def ahead(p, q):
    one = p[0] * q[2]
    other = q[0] * p[2]
    if one == other:
        return is_below(p, q)
    return one < other


def crossed(p, q):
    # Of two spots this is the row through both, as three numbers; of two
    # rows it is the spot on both, not yet in lowest form.
    return (
        p[1] * q[2] - p[2] * q[1],
        p[2] * q[0] - p[0] * q[2],
        p[0] * q[1] - p[1] * q[0],
    )


def sign(n):
    if n > 0:
        return 1
    if n < 0:
        return -1
    return 0


def turn(a, b, c):
    row = crossed(a, b)
    return sign(row[0] * c[0] + row[1] * c[1] + row[2] * c[2])


def merged(left, right, first):
    row = []
    k = 0
    for thing in right:
        # What stood in left goes first unless thing is truly ahead of it:
        # so alike things stay as they stood.
        while k < len(left) and not first(thing, left[k]):
            row.append(left[k])
            k = k + 1
        row.append(thing)
    row.extend(left[k:])
    return row


def merged_pairs(runs, first):
    pairs = [merged(runs[k], runs[k + 1], first) for k in range(0, len(runs) - 1, 2)]
    if len(runs) % 2 == 1:
        pairs.append(runs[-1])
    return pairs


def in_order(some, first):
    runs = [[thing] for thing in some]
    while len(runs) > 1:
        runs = merged_pairs(runs, first)
    return runs[0] if len(runs) == 1 else []
