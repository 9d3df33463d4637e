"""The errors of the package."""


class PartError(ValueError):
    """A value that the package cannot take as it is."""


class InvalidPart(PartError):
    """Something that is no part, or not one that can be taken here."""


class InvalidWish(PartError):
    """Something that is no wish."""


class InvalidJoint(PartError):
    """Something that is no joint."""


class InvalidOperation(PartError):
    """An argument with which a call has no meaning."""


class ParseError(PartError):
    """A text that has a line without the form of a line that can stand there."""

    def __init__(self, line):
        self.line = line


class UnknownName(KeyError):
    """A name that names nothing here."""

    def __init__(self, name):
        self.name = name


class InvalidNumber(RuntimeError):
    """A value that is no number which can be taken here."""

    def __init__(self, value):
        self.value = value


class TooMany(OverflowError):
    """More of something than the limit."""

    def __init__(self, limit):
        self.limit = limit


class NothingToUndo(IndexError):
    """Fewer changes than were to be taken back or done again."""

    def __init__(self, many):
        self.many = many


class Refused(ArithmeticError):
    """A change that a desk does not let happen."""

    def __init__(self, name, reason):
        self.name = name
        self.reason = reason
