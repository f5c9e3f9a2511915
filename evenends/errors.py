"""The errors that the package raises."""


class NetError(ValueError):
    """The base class of the errors about values that do not fit."""


class MissingError(LookupError):
    """The base class of the errors about things that are not there."""


class InvalidVector(NetError):
    """Something is no vector."""


class InvalidBook(NetError):
    """Something is no book."""

    def __init__(self, reason):
        self.reason = reason


class InvalidPart(NetError):
    """Something is no part of a net."""

    def __init__(self, reason):
        self.reason = reason


class InvalidNet(NetError):
    """Parts do not make a net."""

    def __init__(self, reason, name):
        self.reason = reason
        self.name = name


class InvalidCourse(NetError):
    """Something is no course of a net."""

    def __init__(self, reason):
        self.reason = reason


class InvalidWeighting(NetError):
    """Something is no weighting."""

    def __init__(self, reason):
        self.reason = reason


class InvalidDeed(NetError):
    """A deed cannot be done in a house."""

    def __init__(self, reason):
        self.reason = reason


class InvalidItem(NetError):
    """A value is no item of a net."""

    def __init__(self, index):
        self.index = index


class InvalidCosts(NetError):
    """Something does not tell the costs that are asked for."""

    def __init__(self, name):
        self.name = name


class InvalidCount(NetError):
    """Something does not tell what was counted by hand."""

    def __init__(self, name):
        self.name = name


class NotComparable(NetError):
    """Two nets cannot be compared."""

    def __init__(self, reason):
        self.reason = reason


class InvalidText(NetError):
    """A text is not written as it should be."""

    def __init__(self, line, word):
        self.line = line
        self.word = word


class UnknownCommand(NetError):
    """A line of a desk is no command."""

    def __init__(self, word):
        self.word = word


class UnknownName(MissingError):
    """A value is no name of what is asked for."""

    def __init__(self, name):
        self.name = name


class NoItem(MissingError):
    """A value is no number of an open item."""

    def __init__(self, number):
        self.number = number


class TooMany(OverflowError):
    """There are more than a limit allows."""

    def __init__(self, limit):
        self.limit = limit


class NothingToUndo(IndexError):
    """So many lines cannot be taken back."""

    def __init__(self, count):
        self.count = count
