"""Sheets written as texts, and read."""

from sheetlay.errors import NoText
from sheetlay.sheets import Sheet
from sheetlay.words import is_word, read_spot, spot_text


def face_row(told):
    return " ".join(["face", told[0], told[1]] + [spot_text(p) for p in told[2]])


def sheet_text(sheet):
    return "\n".join(["sheet " + sheet.name] + [face_row(told) for told in sheet.faces])


def read_name(row):
    words = row.split(" ")
    if len(words) != 2 or words[0] != "sheet" or not is_word(words[1]):
        return None
    return words[1]


def read_face(row):
    words = row.split(" ")
    # Ahead of three to 24 spots stand three words.
    if not 6 <= len(words) <= 27 or words[0] != "face" or not is_word(words[1]) or not is_word(words[2]):
        return None
    loop = tuple([read_spot(word) for word in words[3:]])
    return None if None in loop else (words[1], words[2], loop)


def read_sheet(text):
    rows = text.split("\n")
    name = read_name(rows[0])
    if name is None:
        raise NoText(1)
    if len(rows) == 1:
        raise NoText(2)
    faces = []
    for row in rows[1:]:
        told = read_face(row)
        if told is None or len(faces) == 12:
            raise NoText(len(faces) + 2)
        faces.append(told)
    return Sheet(name, faces)
