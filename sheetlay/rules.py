"""Rules on marks: how books of them are read, and where they hold."""

from sheetlay.errors import NoRule
from sheetlay.words import is_word, read_number

KEPT_WORDS = ("and", "or", "not", "any")


def words_of(row):
    # Brackets and the colon need no blanks about them.
    for sign in "():":
        row = row.replace(sign, " " + sign + " ")
    return [word for word in row.split(" ") if word]


def parted_by(word, some):
    parts = [[]]
    for thing in some:
        if thing == word:
            parts.append([])
        else:
            parts[-1].append(thing)
    return parts


def put_together(kind, some):
    if None in some:
        return None
    whole = some[0]
    for thing in some[1:]:
        whole = (kind, whole, thing)
    return whole


def is_free_word(thing):
    return isinstance(thing, str) and is_word(thing) and thing not in KEPT_WORDS


def read_bare_thing(some):
    if some == ["any"]:
        return ("any",)
    if len(some) == 1 and isinstance(some[0], tuple):
        return some[0]
    if len(some) == 2 and is_free_word(some[0]) and is_free_word(some[1]):
        return ("is", some[0], some[1])
    return None


def read_thing(some):
    count = 0
    while count < len(some) and some[count] == "not":
        count = count + 1
    thing = read_bare_thing(some[count:])
    for k in range(count):
        thing = None if thing is None else ("not", thing)
    return thing


def read_part(some):
    return put_together("and", [read_thing(thing) for thing in parted_by("and", some)])


def read_parts(some):
    # Among the words stand, as tuples, conditions that had brackets.
    return put_together("or", [read_part(part) for part in parted_by("or", some)])


def read_condition(words):
    unclosed = [[]]
    for word in words:
        if word == "(":
            unclosed.append([])
        elif word == ")":
            condition = read_parts(unclosed.pop())
            if condition is None or not unclosed:
                return None
            unclosed[-1].append(condition)
        else:
            unclosed[-1].append(word)
    return read_parts(unclosed[0]) if len(unclosed) == 1 else None


def read_rule(row):
    words = words_of(row)
    # Another colon is neither a word of the condition nor a number.
    if len(words) < 2 or words[-2] != ":":
        return None
    condition = read_condition(words[:-2])
    amount = read_number(words[-1])
    return None if condition is None or amount is None else (condition, amount)


def read_book(text):
    book = []
    rows = text.split("\n")
    for k in range(len(rows)):
        if words_of(rows[k]):
            rule = read_rule(rows[k])
            if rule is None:
                raise NoRule(k + 1)
            book.append(rule)
    return book


def holds(condition, marks):
    kind = condition[0]
    if kind == "is":
        return marks.get(condition[1]) == condition[2]
    if kind == "not":
        return not holds(condition[1], marks)
    if kind == "and":
        return holds(condition[1], marks) and holds(condition[2], marks)
    if kind == "or":
        return holds(condition[1], marks) or holds(condition[2], marks)
    return True
