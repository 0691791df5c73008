"""The errors of the package. Those that take a value keep a copy of it."""

from bondfloors.base.values import copied


class BondError(ValueError):
    """An argument, a text or a command is wrong by its form."""


class InvalidSize(BondError):
    """What should be a size is none."""


class InvalidFloor(BondError):
    """What should be a floor is none."""


class InvalidLine(BondError):
    """What should be a line is none."""


class InvalidPlan(BondError):
    """What should be a plan is none."""


class InvalidOperation(BondError):
    """What should be done cannot be done."""


class InvalidCommand(BondError):
    """What should be a command is none."""


class ParseError(BondError):
    """A line of a text has not the form of its place."""

    def __init__(self, line):
        self.line = copied(line)


class UnknownName(KeyError):
    """There is nothing of this name."""

    def __init__(self, name):
        self.name = copied(name)


class InvalidNumber(IndexError):
    """The value is no integer, or none that is allowed in its place."""

    def __init__(self, value):
        self.value = copied(value)


class NothingToUndo(LookupError):
    """There are not so many calls to take back or to do again."""

    def __init__(self, many):
        self.many = copied(many)


class Unlaid(LookupError):
    """There is no floor, or no bond, of this size."""

    def __init__(self, value):
        self.value = copied(value)


class Refused(ArithmeticError):
    """The promise of this name would not be kept."""

    def __init__(self, name):
        self.name = copied(name)


class TooMany(OverflowError):
    """There would be more than the limit."""

    def __init__(self, limit):
        self.limit = copied(limit)
