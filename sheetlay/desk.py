"""A desk: told rows of words, it keeps sheets and answers with texts."""

from sheetlay.books import land_worth
from sheetlay.errors import NoName, NoRow
from sheetlay.kept import Kept, place_of
from sheetlay.melting import keys_by, patches
from sheetlay.numbers import less, number_text
from sheetlay.plainer import plainer
from sheetlay.rules import read_book
from sheetlay.sheettexts import read_sheet, sheet_text
from sheetlay.sums import summed
from sheetlay.words import is_word, read_number, read_spot


def with_line_feeds(text):
    # A line feed that stands there is no row's end: it takes the place of
    # the sign that no row may have.
    return "\n".join([row.replace("\n", "|") for row in text.split("|")])


def words_due(words, count):
    if len(words) != count or not all([is_word(word) for word in words]):
        raise NoRow()


def names_due(words):
    words_due(words, len(words))
    if not words or len(set(words)) != len(words):
        raise NoRow()


def spots_due(words, least):
    spots = tuple([read_spot(word) for word in words])
    if len(spots) < least or None in spots:
        raise NoRow()
    return spots


def lay_with(desk, names):
    lay = desk.lay()
    for name in names:
        place_of(lay.sheets, name)
    return lay


def change_text(change):
    return "went " + str(len(change[0])) + " came " + str(len(change[1]))


def keep_row(desk, text):
    sheet = read_sheet(with_line_feeds(text))
    sheets = desk.pile()
    names = [other.name for other in sheets]
    if sheet.name in names:
        sheets[names.index(sheet.name)] = sheet
    else:
        sheets.append(sheet)
    desk.begin(sheets)
    return "ok"


def worth_row(desk, text):
    lay = desk.lay()
    return number_text(land_worth(lay, read_book(with_line_feeds(text))))


def drop_row(desk, words):
    words_due(words, 1)
    sheets = desk.pile()
    sheets.pop(place_of(sheets, words[0]))
    desk.begin(sheets)
    return "ok"


def show_row(desk, words):
    words_due(words, 1)
    sheets = desk.pile()
    return sheet_text(sheets[place_of(sheets, words[0])]).replace("\n", "|")


def lay_row(desk, words):
    words_due(words, 0)
    return str(len(desk.lay().faces))


def at_row(desk, words):
    if len(words) != 1:
        raise NoRow()
    p = spots_due(words, 1)[0]
    lay = desk.lay()
    n = lay.face_at(p)
    return "none" if n is None else " ".join(lay.faces[n][1])


def areas_row(desk, words):
    names_due(words)
    rows = summed(lay_with(desk, words), words)
    return "; ".join([" ".join(list(marks) + [number_text(area)]) for marks, area in rows])


def patches_row(desk, words):
    names_due(words)
    lay = lay_with(desk, words)
    return str(len(patches(lay, keys_by(lay, words))))


def plain_row(desk, words):
    words_due(words[:-1], 1)
    far = read_number(words[1])
    if far is None or less(far, (0, 1)):
        raise NoRow()
    sheets = desk.pile()
    k = place_of(sheets, words[0])
    told = plainer(sheets[k], far)
    sheets[k] = told[0]
    desk.begin(sheets)
    # Each spot that went is in just one chain, and neither end of it.
    return str(sum([len(chain) - 2 for a, b, chain in told[1]]))


def mark_row(desk, words):
    words_due(words, 3)
    return change_text(desk.kept_with(words[0]).mark(words[0], words[1], words[2]))


def split_row(desk, words):
    words_due(words[:4], 4)
    path = spots_due(words[4:], 2)
    return change_text(desk.kept_with(words[0]).split(words[0], words[1], path, words[2], words[3]))


def join_row(desk, words):
    words_due(words, 3)
    return change_text(desk.kept_with(words[0]).join(words[0], words[1], words[2]))


TEXT_ROWS = {"keep": keep_row, "worth": worth_row}
WORD_ROWS = {
    "drop": drop_row,
    "show": show_row,
    "lay": lay_row,
    "at": at_row,
    "areas": areas_row,
    "patches": patches_row,
    "plain": plain_row,
    "mark": mark_row,
    "split": split_row,
    "join": join_row,
}


class Desk:
    def __init__(self):
        self.kept = None

    def pile(self):
        return [] if self.kept is None else self.kept.pile()

    def lay(self):
        if self.kept is None:
            raise NoRow()
        return self.kept.lay()

    def kept_with(self, name):
        if self.kept is None:
            raise NoName(name)
        return self.kept

    def begin(self, sheets):
        self.kept = Kept(sheets) if sheets else None

    def say(self, row):
        if not isinstance(row, str):
            raise NoRow()
        parts = row.partition(" ")
        if parts[0] in TEXT_ROWS and parts[1]:
            return TEXT_ROWS[parts[0]](self, parts[2])
        if parts[0] in WORD_ROWS:
            return WORD_ROWS[parts[0]](self, row.split(" ")[1:])
        raise NoRow()
