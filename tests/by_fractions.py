"""What the document says of places, said once more by fractions: slower
than the program and by other ways, so that the two can be held together."""

import itertools
from fractions import Fraction

from sheetlay.spots import spot


def place(p):
    return (Fraction(p[0], p[2]), Fraction(p[1], p[2]))


def spot_at(x, y):
    x, y = Fraction(x), Fraction(y)
    w = x.denominator * y.denominator
    return spot(x.numerator * y.denominator, y.numerator * x.denominator, w)


def share_of_side(p, side):
    # How far along the side p lies, from 0 to 1 on it; None beside its row.
    a, b, c = place(side[0]), place(side[1]), place(p)
    k = 0 if a[0] != b[0] else 1
    share = (c[k] - a[k]) / (b[k] - a[k])
    met = tuple(a[i] + share * (b[i] - a[i]) for i in (0, 1))
    return share if met == c else None


def is_on(p, side):
    share = share_of_side(p, side)
    return share is not None and 0 <= share <= 1


def common_by_shares(one, other):
    shares = [share_of_side(p, one) for p in other]
    if None not in shares:
        return stretch_by_shares(one, max(0, min(shares)), min(1, max(shares)))
    a, b, c, d = place(one[0]), place(one[1]), place(other[0]), place(other[1])
    u, v, w = ((q[0] - p[0], q[1] - p[1]) for p, q in ((a, b), (c, d), (a, c)))
    area = u[0] * v[1] - u[1] * v[0]
    if area == 0:
        return None
    on_one = (w[0] * v[1] - w[1] * v[0]) / area
    on_other = (w[0] * u[1] - w[1] * u[0]) / area
    if not (0 <= on_one <= 1 and 0 <= on_other <= 1):
        return None
    return ("spot", spot_at(a[0] + on_one * u[0], a[1] + on_one * u[1]))


def stretch_by_shares(side, low, high):
    if low > high:
        return None
    a, b = place(side[0]), place(side[1])
    ends = sorted((a[0] + share * (b[0] - a[0]), a[1] + share * (b[1] - a[1])) for share in (low, high))
    p, q = (spot_at(x, y) for x, y in ends)
    return ("spot", p) if p == q else ("stretch", p, q)


def goings_of(loop):
    return [(loop[k], loop[(k + 1) % len(loop)]) for k in range(len(loop))]


def fraction(number):
    return Fraction(number[0], number[1])


def area_by_places(loop):
    # By the strips between the sides and the row at height 0.
    area = 0
    for a, b in goings_of([place(p) for p in loop]):
        area += (a[0] - b[0]) * (a[1] + b[1]) / 2
    return area


def rounds(loop, p):
    # By what passes straight above p, to the left or to the right.
    x, y = place(p)
    count = 0
    for a, b in goings_of([place(q) for q in loop]):
        if (a[0] <= x) != (b[0] <= x):
            height = a[1] + (x - a[0]) / (b[0] - a[0]) * (b[1] - a[1])
            if height > y:
                count += 1 if b[0] < a[0] else -1
    return count


def where_by_places(loop, p):
    if any(is_on(p, side) for side in goings_of(loop)):
        return 0
    return 1 if rounds(loop, p) != 0 else -1


def rotations(loop):
    return [loop[k:] + loop[:k] for k in range(len(loop))]


def places(spots):
    return [place(p) for p in spots]


def first_rotation(loop):
    return min(rotations(loop), key=places)


def direction(b, p):
    # Rises from 0 to 4 all the way round, from straight right to the left.
    (x, y), (u, v) = place(b), place(p)
    share = (u - x) / (abs(u - x) + abs(v - y))
    return 1 - share if v >= y else 3 + share


def loops_of_goings(goings):
    # Behind the going from a to b comes the one to the spot that needs the
    # least turn to the right, a whole turn for a itself.
    behind = {}
    for a, b in goings:
        behind.setdefault(a, []).append(b)
    left = set(goings)
    loops = []
    while left:
        going = start = min(left)
        loop = []
        while going != start or not loop:
            left.remove(going)
            loop.append(going[0])
            a, b = going
            going = (b, min(behind[b], key=lambda c: (direction(b, a) - direction(b, c)) % 4 or 4))
        loops.append(first_rotation(tuple(loop)))
    return sorted(loops, key=places)


def loops_by_directions(sides):
    return loops_of_goings(list(sides) + [(b, a) for a, b in sides])


def square_by_shares(p, side):
    # By the nearest spot of the side, found by its share of it.
    a, b, c = place(side[0]), place(side[1]), place(p)
    way = (b[0] - a[0], b[1] - a[1])
    share = ((c[0] - a[0]) * way[0] + (c[1] - a[1]) * way[1]) / (way[0] ** 2 + way[1] ** 2)
    share = min(max(share, 0), 1)
    return (a[0] + share * way[0] - c[0]) ** 2 + (a[1] + share * way[1] - c[1]) ** 2


def corners_by_shares(sides):
    found = {p for side in sides for p in side}
    for one, other in itertools.combinations(set(sides), 2):
        met = common_by_shares(one, other)
        if met is not None and met[0] == "spot":
            found.add(met[1])
    return found


def paper_by_shares(sides):
    # From each piece, in order, to the numbers of the sides it lies on.
    corners = corners_by_shares(sides)
    found = {}
    for k, side in enumerate(sides):
        spots = sorted([p for p in corners if is_on(p, side)], key=place)
        for piece in zip(spots, spots[1:]):
            found.setdefault(piece, []).append(k)
    return {piece: found[piece] for piece in sorted(found, key=places)}


def face_around(faces, p):
    # The one face of a sheet inside whose loop p is.
    found = [word for word, mark, loop in faces if where_by_places(loop, p) == 1]
    if len(found) != 1:
        raise ValueError((faces, p, found))
    return found[0]


def neighbours(sheet):
    # Which face of a sheet lies by which, None being the land's end.
    left = {going: word for word, mark, loop in sheet.faces for going in goings_of(loop)}
    return {(word, left.get(going[::-1])) for going, word in left.items()}
