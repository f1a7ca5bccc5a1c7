"""Lays: sheets of one land laid over one another."""

from sheetlay.errors import NoPile
from sheetlay.loops import sides_of, where
from sheetlay.pieces import cut
from sheetlay.sheets import copied
from sheetlay.spots import ahead
from sheetlay.webs import loops_of


def refuse_no_pile(sheets):
    lands = [sheet.land() for sheet in sheets]
    for other in range(len(sheets)):
        for one in range(other):
            if sheets[one].name == sheets[other].name or lands[one] != lands[other]:
                raise NoPile(one, other)


def goings_with_words(sheets):
    found = []
    for k in range(len(sheets)):
        for word, mark, loop in sheets[k].faces:
            for going in sides_of(loop):
                found.append((going, k, word))
    return found


def words_at_left(web, told, count):
    # For each sheet: from a going along a piece to the face at its left.
    found = [{} for k in range(count)]
    for piece in web:
        for n in web[piece]:
            side = told[n][0]
            going = piece if ahead(side[0], side[1]) else (piece[1], piece[0])
            found[told[n][1]][going] = told[n][2]
    return found


def loops_at_left(loops):
    found = {}
    for n in range(len(loops)):
        for going in sides_of(loops[n]):
            found[going] = n
    return found


def loops_beside(loop, at_left, words):
    # Those behind pieces that are on none of the sheet's sides.
    return [at_left[(b, a)] for a, b in sides_of(loop) if (a, b) not in words]


def handed_on(told, beside):
    # What is told of some numbers, told of all beside them too, and so on.
    found = dict(told)
    waiting = list(found)
    while waiting:
        n = waiting.pop()
        for other in beside(n):
            if other not in found:
                found[other] = found[n]
                waiting.append(other)
    return found


def words_of_loops(loops, at_left, words):
    # A loop that goes along a side of the sheet lies in the face at the left
    # of it; so do those beside it, as no side of the sheet lies between.
    told = dict([(at_left[going], words[going]) for going in words])
    return handed_on(told, lambda n: loops_beside(loops[n], at_left, words))


def rows_of(loops, at_left, words):
    columns = [words_of_loops(loops, at_left, part) for part in words]
    return [tuple([column[n] for column in columns]) for n in range(len(loops))]


class Lay:
    def __init__(self, sheets):
        self.sheets = [copied(sheet) for sheet in sheets]
        refuse_no_pile(self.sheets)
        told = goings_with_words(self.sheets)
        web = cut([going for going, k, word in told])
        self.pieces = list(web)
        loops = loops_of(self.pieces)[0]
        words = words_at_left(web, told, len(self.sheets))
        self.faces = list(zip(loops, rows_of(loops, loops_at_left(loops), words)))

    def paper(self):
        at_left = loops_at_left([loop for loop, row in self.faces])
        return [(p, q, at_left.get((p, q)), at_left.get((q, p))) for p, q in self.pieces]

    def face_at(self, p):
        for n in range(len(self.faces)):
            if where(self.faces[n][0], p) == 1:
                return n
        return None
