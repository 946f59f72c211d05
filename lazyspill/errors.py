"""The errors of the package."""


class SpillError(ValueError):
    """The base of all errors of this package."""


class InvalidTrace(SpillError):
    """A value is not a trace."""

    def __init__(self, index):
        self.index = index


class InvalidPlan(SpillError):
    """A value is not a plan for the trace and the machine."""

    def __init__(self, index):
        self.index = index


class InvalidRow(SpillError):
    """A value is not a row."""

    def __init__(self, index):
        self.index = index


class InvalidTree(SpillError):
    """A value is not a tree."""

    def __init__(self, index):
        self.index = index


class InvalidMoments(SpillError):
    """A value is not an ascending list of moments."""

    def __init__(self, index):
        self.index = index


class InvalidBlocks(SpillError):
    """A value does not tell at which moments blocks begin."""

    def __init__(self, index):
        self.index = index


class InvalidFuture(SpillError):
    """A value is not a future of the trace."""

    def __init__(self, index):
        self.index = index


class InvalidCounts(SpillError):
    """A value is not a list of traces with numbers of written words."""

    def __init__(self, index):
        self.index = index


class InvalidChoices(SpillError):
    """A value is not an ascending list of numbers of registers."""

    def __init__(self, index):
        self.index = index


class InvalidProgram(SpillError):
    """A value is not a program."""

    def __init__(self, index):
        self.index = index


class InvalidSyntax(SpillError):
    """A text has a word that cannot stand there, or lacks one."""

    def __init__(self, word):
        self.word = word


class TooLong(SpillError):
    """The result would be longer than the limit."""

    def __init__(self, limit):
        self.limit = limit


class Refused(SpillError):
    """More words would be moved in all than a stack may move."""

    def __init__(self, moved):
        self.moved = moved


class InvalidRegisters(SpillError):
    """A value is not a number of registers."""


class InvalidTop(SpillError):
    """A value is not a number of topmost words that fit in the registers."""


class InvalidNumber(SpillError):
    """A value is not an integer in its range."""


class InvalidRule(SpillError):
    """A value is not a rule for the machine."""


class InvalidCommand(SpillError):
    """A value is not a command of the console."""


class NotClosed(SpillError):
    """A trace leaves words on the stack."""


class Bounded(SpillError):
    """A rule has a greatest number of traps in a block."""


class Empty(SpillError):
    """There is no word to pop."""


class Fixed(SpillError):
    """The number of registers of this stack cannot change."""


class NothingToUndo(SpillError):
    """There is no call to revert."""
