"""The refusals of the program.

Python itself keeps what an error was made of as its own words, so that
no class here has to write a message.
"""


class SheetError(ValueError):
    pass


class BadFace(SheetError):
    def __init__(self, face):
        self.face = face


class Twice(SheetError):
    def __init__(self, one, other):
        self.one = one
        self.other = other


class NoLand(SheetError):
    pass


class NoText(SheetError):
    def __init__(self, line):
        self.line = line


class NoPile(SheetError):
    def __init__(self, one, other):
        self.one = one
        self.other = other


class NoRule(SheetError):
    def __init__(self, row):
        self.row = row


class NoPath(SheetError):
    pass


class NoJoin(SheetError):
    pass


class NoRow(SheetError):
    pass


class NoName(SheetError):
    def __init__(self, name):
        self.name = name
