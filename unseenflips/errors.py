"""The errors of this package."""


class FlipError(ValueError):
    """The base class of all errors of this package."""


class InvalidRule(FlipError):
    """No rule can be made; `word` tells why: "flag", "stuffs" or "endless"."""

    def __init__(self, word):
        self.word = word


class InvalidCheck(FlipError):
    """No check can be made; `word` is the name of the first wrong argument."""

    def __init__(self, word):
        self.word = word


class InvalidText(FlipError):
    """A text does not have the form that is read; `at` is where."""

    def __init__(self, at):
        self.at = at


class InvalidWord(FlipError):
    """A value is no word of the characters 0 and 1."""


class InvalidHits(FlipError):
    """Hits do not fit a line; `at` is the index of the first wrong one."""

    def __init__(self, at):
        self.at = at


class InvalidCommand(FlipError):
    """A desk does not know this command, or cannot execute it yet."""


class Refused(FlipError):
    """One of several words is wrong, so none was heard; `at` is its index."""

    def __init__(self, at):
        self.at = at
