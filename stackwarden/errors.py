"""The refusals, one class for each."""


# Any refusal.
class WardenError(ValueError):
    pass


# div or rem by nought.
class Nought(WardenError):
    pass


# A line of a text that is no row.
class NoRow(WardenError):
    def __init__(self, at):
        self.at = at


# Bytes that are no code.
class NoCode(WardenError):
    def __init__(self, at, word):
        self.at = at
        self.word = word


# A book that is not right.
class NoBook(WardenError):
    def __init__(self, part, at):
        self.part = part
        self.at = at


# A run that is started at what is no door.
class NoDoor(WardenError):
    pass


# A part that the warden does not let by.
class NoPass(WardenError):
    def __init__(self, part, at, word):
        self.part = part
        self.at = at
        self.word = word


# Papers that the checker does not let by.
class NoPaper(WardenError):
    def __init__(self, part, at, word):
        self.part = part
        self.at = at
        self.word = word


# A program that does not keep the rules of its language.
class NoTree(WardenError):
    def __init__(self, part):
        self.part = part


# A program of which a part would be beyond the bounds of code.
class TooLarge(WardenError):
    def __init__(self, part):
        self.part = part


# Units that do not fit together.
class NoLink(WardenError):
    def __init__(self, word, name):
        self.word = word
        self.name = name
