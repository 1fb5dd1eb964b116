"""The errors of the package, constructed from their fields."""


class BreakerError(ArithmeticError):
    """What all errors of the package have in common."""


class InvalidRow(BreakerError):
    """A part of a row or of routes is invalid."""

    def __init__(self, part, at):
        self.part = part
        self.at = at


class InvalidTime(BreakerError):
    """A value is not a time that is allowed here."""

    def __init__(self, time):
        self.time = time


class InvalidOutages(BreakerError):
    """A value is not a list of outages, or one of its items is invalid."""

    def __init__(self, at):
        self.at = at


class InvalidTrains(BreakerError):
    """A value is not a list of trains, or one of its items is invalid."""

    def __init__(self, at):
        self.at = at


class InvalidIndex(BreakerError):
    """There is nothing with this index."""

    def __init__(self, index):
        self.index = index


class InvalidBound(BreakerError):
    """An argument is outside of its bounds."""

    def __init__(self, part):
        self.part = part


class InvalidLog(BreakerError):
    """A value is not a log, or one of its items is invalid."""

    def __init__(self, at):
        self.at = at


class InvalidCall(BreakerError):
    """A word for a request is invalid."""

    def __init__(self, call):
        self.call = call


class InvalidText(BreakerError):
    """A text has not the form that is asked for."""

    def __init__(self, line, word):
        self.line = line
        self.word = word


class LimitExceeded(BreakerError):
    """A result or a computation would be larger than its limit."""

    def __init__(self, limit):
        self.limit = limit
