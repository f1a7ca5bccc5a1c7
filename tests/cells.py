"""Lands of boxes, so that all that the program tells of sheets can be
reckoned by counting cells, without any spot or side being crossed.

A chart is a dict from cells, tuples (x, y), to the words of faces.
"""

from examples import loop


def beside(cell):
    x, y = cell
    return [(x - 1, y), (x + 1, y), (x, y - 1), (x, y + 1)]


def parts_of(keys):
    # The cells that hang together by their sides and have alike keys.
    left = set(keys)
    parts = []
    while left:
        part, waiting = set(), [min(left)]
        while waiting:
            cell = waiting.pop()
            if cell in left:
                left.remove(cell)
                part.add(cell)
                waiting += [other for other in beside(cell) if keys.get(other) == keys[cell]]
        parts.append(frozenset(part))
    return parts


def outward(cells):
    # Ways of length 1 with a cell at the left and none of them at the right.
    found = []
    for x, y in cells:
        found += [((x, y), (x + 1, y))] * ((x, y - 1) not in cells) + [((x + 1, y), (x + 1, y + 1))] * ((x + 1, y) not in cells)
        found += [((x + 1, y + 1), (x, y + 1))] * ((x, y + 1) not in cells) + [((x, y + 1), (x, y))] * ((x - 1, y) not in cells)
    return found


def outline(cells):
    # The corners all round, or None where that is not one simple loop.
    ways = outward(cells)
    onward = dict(ways)
    if not ways or len(onward) < len(ways):
        return None
    corners = [min(onward)]
    while onward[corners[-1]] != corners[0]:
        corners.append(onward[corners[-1]])
    return corners if len(corners) == len(ways) else None


def cells_of(chart, word):
    return frozenset(cell for cell in chart if chart[cell] == word)


def words_of_chart(chart):
    return sorted(set(chart.values()))


def is_chart(chart):
    return all(outline(cells_of(chart, word)) for word in words_of_chart(chart))


def chance_chart(chance, width, height, count):
    # Grown cell by cell, as long as each face is a simple one.
    chart = {(x, y): "a" for x in range(width) for y in range(height)}
    for k in range(40 * count):
        cell = chance.choice(sorted(chart))
        words = words_of_chart(chart)
        new = ["bcdefghijkl"[len(words) - 1]] if len(words) < count else []
        near = [chart[other] for other in beside(cell) if other in chart]
        tried = dict(chart)
        tried[cell] = chance.choice(near + new)
        if len(words_of_chart(tried)) >= len(words) and is_chart(tried):
            chart = tried
    return chart


def chart_faces(chance, chart, marks):
    faces = []
    for word in chance.sample(words_of_chart(chart), len(words_of_chart(chart))):
        corners = outline(cells_of(chart, word))
        k = chance.randrange(len(corners))
        faces.append((word, chance.choice(marks), loop(*corners[k:], *corners[:k])))
    return faces


def common_parts(charts):
    # From each face of the lay, as its cells, to its row.
    rows = {cell: tuple(chart[cell] for chart in charts) for cell in charts[0]}
    return {part: rows[min(part)] for part in parts_of(rows)}


def shared_way(one, other):
    # The corners along which two faces lie by one another, with one at the
    # left, or None where that is not one chain.
    ways = set(outward(one)) & {(b, a) for a, b in outward(other)}
    onward = dict(ways)
    starts = set(onward) - set(onward.values())
    if len(starts) != 1 or len(onward) < len(ways):
        return None
    way = list(starts)
    while way[-1] in onward:
        way.append(onward[way[-1]])
    return way if len(way) == len(ways) + 1 else None


def chance_halves(chance, cells):
    # Two simple faces that make up the cells, or None.
    one = {chance.choice(sorted(cells))}
    for k in range(chance.randrange(len(cells))):
        near = sorted({other for cell in one for other in beside(cell)} & set(cells) - one)
        if near:
            one.add(chance.choice(near))
    other = set(cells) - one
    if not other or outline(one) is None or outline(other) is None:
        return None
    return frozenset(one), frozenset(other)
