"""The errors of the package.

Those with fields do not call the __init__ of their base: Python keeps the
arguments anyway, so that a shown error shows its fields.
"""


class KeyerError(ValueError):
    """The base of all errors of the package."""


class InvalidLever(KeyerError):
    """A value is not "s" or "l"."""


class InvalidTick(KeyerError):
    """A value is no tick, or none that can stand here."""


class InvalidNumber(KeyerError):
    """A value is no integer, or one out of its limits."""


class InvalidGaps(KeyerError):
    """A value is no gaps for the rules."""


class InvalidText(KeyerError):
    """A value is no text of the asked form."""


class InvalidName(KeyerError):
    """A value is none of the names that can stand here."""


class Impossible(KeyerError):
    """What is asked for does not exist, or cannot happen."""


class NothingToUndo(KeyerError):
    """There is no call that could be taken back."""


class InvalidCommand(KeyerError):
    """A value is no command, or none that can be run now."""


class InvalidRules(KeyerError):
    """A value is no rules; index is that of the first wrong item."""

    def __init__(self, index):
        self.index = index


class InvalidRecord(KeyerError):
    """A value is no record; index is that of the first wrong item."""

    def __init__(self, index):
        self.index = index


class InvalidRuns(KeyerError):
    """A value is no list of runs; index is that of the first wrong item."""

    def __init__(self, index):
        self.index = index


class InvalidKinds(KeyerError):
    """A value is no list of kinds; index is that of the first wrong item."""

    def __init__(self, index):
        self.index = index


class InvalidCases(KeyerError):
    """A value is no list of cases; index is that of the first wrong item."""

    def __init__(self, index):
        self.index = index


class InvalidCode(KeyerError):
    """A value is no code; letter is the first one with a wrong word."""

    def __init__(self, letter):
        self.letter = letter


class TooLarge(KeyerError):
    """There is more of something than the limit."""

    def __init__(self, limit):
        self.limit = limit


class InvalidSyntax(KeyerError):
    """A text cannot be read from this word of this line on."""

    def __init__(self, line, word):
        self.line = line
        self.word = word
