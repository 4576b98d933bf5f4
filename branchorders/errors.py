"""The errors of the program: all of them are kinds of BranchError."""


class BranchError(ValueError):
    """What every error of the program is."""


class InvalidWidth(BranchError):
    """A width is less than it may be; the value is the width."""

    def __init__(self, value):
        self.value = value


class InvalidWords(BranchError):
    """An integer is no word; the value is its index, or None where the words as a whole are wrong."""

    def __init__(self, value):
        self.value = value


class InvalidOutcome(BranchError):
    """A string is no outcome; the value is the string."""

    def __init__(self, value):
        self.value = value


class InvalidCondition(BranchError):
    """A string is no condition; the value is the string."""

    def __init__(self, value):
        self.value = value


class InvalidRanking(BranchError):
    """A tuple is no ranking; the value is the tuple."""

    def __init__(self, value):
        self.value = value


class InvalidKnowledge(BranchError):
    """A tuple of knowledge is wrong; the value is its index."""

    def __init__(self, value):
        self.value = value


class InvalidProgram(BranchError):
    """A row of a program is wrong; the value is its index, or None where the inputs are wrong."""

    def __init__(self, value):
        self.value = value


class InvalidRow(BranchError):
    """A program has no such row; the value is the row."""

    def __init__(self, value):
        self.value = value


class InvalidRegister(BranchError):
    """A program has no such register; the value is the name."""

    def __init__(self, value):
        self.value = value


class InvalidQuery(BranchError):
    """A tuple is no query; the value is the tuple."""

    def __init__(self, value):
        self.value = value


class InvalidTable(BranchError):
    """A tuple of a table is wrong; the value is its index, or None where their number is wrong."""

    def __init__(self, value):
        self.value = value


class InvalidNumber(BranchError):
    """A number is out of its range; the value is the number."""

    def __init__(self, value):
        self.value = value


class UnlikeInputs(BranchError):
    """Programs have different numbers of inputs; the value is an index of a program, or None."""

    def __init__(self, value):
        self.value = value


class NothingToUndo(BranchError):
    """There is no call to take back; the value is 0."""

    def __init__(self, value):
        self.value = value


class Unreadable(BranchError):
    """A text says nothing that can be read; the value is the text."""

    def __init__(self, value):
        self.value = value
