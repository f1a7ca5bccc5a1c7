"""Melting: faces of a lay that lie side by side and have alike keys."""

from sheetlay.lays import handed_on
from sheetlay.loops import area, loop_ahead
from sheetlay.spots import ahead, in_order, turn
from sheetlay.sums import marks_of
from sheetlay.webs import all_loops, joined_spots, round_about


def alike_beside(paper, keys):
    beside = [[] for key in keys]
    for p, q, left, right in paper:
        if left is not None and right is not None and keys[left] == keys[right]:
            beside[left].append(right)
            beside[right].append(left)
    return beside


def patches_by_first(paper, keys):
    # From each face to the first face, by its number, of the same patch.
    beside = alike_beside(paper, keys)
    found = {}
    for n in range(len(keys)):
        if n not in found:
            found.update(handed_on({n: n}, lambda k: beside[k]))
    return found


def kept_pieces(paper, firsts):
    # The land's end, None, is no face and so has no first one.
    told = [(p, q, firsts.get(left), firsts.get(right)) for p, q, left, right in paper]
    return [piece for piece in told if piece[2] != piece[3]]


def straight_spots(joined):
    # From each spot that is left out to the one behind it in its row.
    found = {}
    for b in joined:
        near = in_order(joined[b], ahead)
        if len(near) == 2 and turn(near[0], b, near[1]) == 0:
            found[b] = near[1]
    return found


def kept_sides(pieces):
    onward = straight_spots(joined_spots([piece[:2] for piece in pieces]))
    sides = []
    for p, q, left, right in pieces:
        if p not in onward:
            while q in onward:
                q = onward[q]
            sides.append((p, q, left, right))
    return in_order(sides, lambda one, other: loop_ahead(one[:2], other[:2]))


def goings_by_patch(sides):
    found = {}
    for p, q, left, right in sides:
        found.setdefault(left, []).append((p, q))
        found.setdefault(right, []).append((q, p))
    return found


def goings_behind(goings):
    outward = {}
    for a, b in goings:
        outward.setdefault(a, []).append(b)
    onward = {}
    for a, b in goings:
        # The ring turns left: ahead of a stands what is met turning right.
        ring = round_about(b, [a] + outward[b])
        onward[(a, b)] = (b, ring[ring.index(a) - 1])
    return onward


def patch_loops(goings):
    loops = all_loops(goings_behind(goings))
    within = [loop for loop in loops if area(loop)[0] < 0]
    return [loop for loop in loops if area(loop)[0] > 0] + in_order(within, loop_ahead)


def melted(lay, keys):
    # The patches, and the kept sides with the first faces of the patches.
    paper = lay.paper()
    firsts = patches_by_first(paper, keys)
    sides = kept_sides(kept_pieces(paper, firsts))
    goings = goings_by_patch(sides)
    faces = {}
    for n in range(len(keys)):
        faces.setdefault(firsts[n], []).append(n)
    told = [(keys[n], patch_loops(goings[n]), faces[n]) for n in faces]
    return (in_order(told, lambda one, other: loop_ahead(one[1][0], other[1][0])), sides)


def patches(lay, keys):
    return melted(lay, keys)[0]


def melt_paper(lay, keys):
    told = melted(lay, keys)
    numbers = {}
    for k in range(len(told[0])):
        numbers[told[0][k][2][0]] = k
    return [(p, q, numbers.get(left), numbers.get(right)) for p, q, left, right in told[1]]


def key_by(marks, names):
    return " ".join([marks[name] for name in names])


def keys_by(lay, names):
    return [key_by(marks_of(lay, n), names) for n in range(len(lay.faces))]
