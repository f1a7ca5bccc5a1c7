"""How far a spot is from a side."""

from sheetlay.numbers import number


def reach(p, q):
    # From p to q, to the right and up, told in parts of both w.
    return (q[0] * p[2] - p[0] * q[2], q[1] * p[2] - p[1] * q[2])


def straight_square(p, q):
    way = reach(p, q)
    return number(way[0] * way[0] + way[1] * way[1], (p[2] * q[2]) ** 2)


def is_beyond(p, a, b):
    # Whether p lies before a, seen from a towards b. The parts in which the
    # two ways are told are above 0, and so don't change the sign.
    way = reach(a, b)
    to_p = reach(a, p)
    return way[0] * to_p[0] + way[1] * to_p[1] <= 0


def row_square(p, a, b):
    way = reach(a, b)
    to_p = reach(a, p)
    across = way[0] * to_p[1] - way[1] * to_p[0]
    # The parts of b stand above and below alike; those of a and p are left.
    return number(across * across, (way[0] * way[0] + way[1] * way[1]) * (a[2] * p[2]) ** 2)


def square(p, side):
    for a, b in (side, (side[1], side[0])):
        if is_beyond(p, a, b):
            return straight_square(p, a)
    return row_square(p, side[0], side[1])
