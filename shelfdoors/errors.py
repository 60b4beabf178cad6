"""The errors that the package raises. Each has its class's name as its `code`."""


def _pair(level):
    """Return a level as a tuple of its own, as callers may pass a list."""
    return tuple(level) if isinstance(level, list) else level


class ChainError(ValueError):
    """The base class of the errors about wrong values; it is not raised itself."""


class InvalidChain(ChainError):
    """A chain cannot have these segments; -1 stands for their number."""

    def __init__(self, segment):
        self.segment = segment
        self.code = "InvalidChain"


class InvalidText(ChainError):
    """A text is not the text of a chain."""

    def __init__(self):
        self.code = "InvalidText"


class InvalidEntry(ChainError):
    """A chain has no such entry."""

    def __init__(self, entry):
        self.entry = entry
        self.code = "InvalidEntry"


class InvalidItem(ChainError):
    """A value cannot be requested or looked for."""

    def __init__(self, item):
        self.item = item
        self.code = "InvalidItem"


class NotRemovable(ChainError):
    """A level may not be removed."""

    def __init__(self, level):
        self.level = _pair(level)
        self.code = "NotRemovable"


class EntriesDiffer(ChainError):
    """Two chains have different numbers of entries."""

    def __init__(self):
        self.code = "EntriesDiffer"


class InvalidNumber(ChainError):
    """No normal chain has this number."""

    def __init__(self, number):
        self.number = number
        self.code = "InvalidNumber"


class InvalidBound(ChainError):
    """A bound is outside of its range."""

    def __init__(self, bound):
        self.bound = bound
        self.code = "InvalidBound"


class InvalidContents(ChainError):
    """Contents do not fit a chain."""

    def __init__(self):
        self.code = "InvalidContents"


class InvalidProgram(ChainError):
    """A statement or a line of a program is wrong."""

    def __init__(self, place):
        self.place = place
        self.code = "InvalidProgram"


class CircularPart(ChainError):
    """A part of a program uses itself."""

    def __init__(self, name):
        self.name = name
        self.code = "CircularPart"


class TooManyRounds(ChainError):
    """A repeat needs more rounds than are carried out."""

    def __init__(self, limit):
        self.limit = limit
        self.code = "TooManyRounds"


class TooManySteps(ChainError):
    """A program needs more steps than are carried out."""

    def __init__(self, limit):
        self.limit = limit
        self.code = "TooManySteps"


class NothingLeft(ChainError):
    """There is no step to undo or to redo."""

    def __init__(self):
        self.code = "NothingLeft"


class InvalidName(ChainError):
    """A value is not a name."""

    def __init__(self, name):
        self.name = name
        self.code = "InvalidName"


class NameTaken(ChainError):
    """There is already a run with this name."""

    def __init__(self, name):
        self.name = name
        self.code = "NameTaken"


class RackFull(ChainError):
    """A rack would have more runs than its limit."""

    def __init__(self, limit):
        self.limit = limit
        self.code = "RackFull"


class InvalidCommand(ChainError):
    """A tuple is not a command."""

    def __init__(self, word):
        self.word = word
        self.code = "InvalidCommand"


class InvalidDocument(ChainError):
    """A text is not the text of a rack."""

    def __init__(self, line):
        self.line = line
        self.code = "InvalidDocument"


class NotFound(LookupError):
    """The base class of the errors about what does not exist; it is not raised itself."""


class NoLevel(NotFound):
    """A chain has no such level."""

    def __init__(self, level):
        self.level = _pair(level)
        self.code = "NoLevel"


class UnknownPart(NotFound):
    """There is no part with this name."""

    def __init__(self, name):
        self.name = name
        self.code = "UnknownPart"


class UnknownName(NotFound):
    """There is no run with this name."""

    def __init__(self, name):
        self.name = name
        self.code = "UnknownName"
