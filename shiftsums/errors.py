"""The refusals: each has a class of its own, and ShiftError takes them all."""


class ShiftError(ValueError):
    pass


class NoWeb(ShiftError):
    def __init__(self, at):
        self.at = at


class Down(ShiftError):
    def __init__(self, at):
        self.at = at


class NoText(ShiftError):
    def __init__(self, line):
        self.line = line


class NoJoin(ShiftError):
    pass


class TooMany(ShiftError):
    pass


class NoRow(ShiftError):
    pass


class NoName(ShiftError):
    pass


class NoWord(ShiftError):
    pass
