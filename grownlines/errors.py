"""The errors of the package, one class for each kind of failure."""


class LineError(ValueError):
    """What is told to draw, to decide or to read is of a wrong kind or form."""


class InvalidGrid(LineError):
    """There is no such grid."""


class InvalidPoint(LineError):
    """There is no such point."""


class InvalidRule(LineError):
    """There is no such rule, or no such row of items."""


class InvalidScheme(LineError):
    """There is no such scheme."""


class InvalidStand(LineError):
    """There is no such stand."""


class InvalidPaper(LineError):
    """There is no such paper."""


class InvalidOperation(LineError):
    """The operation is not possible with these values."""


class ParseError(LineError):
    """A text is none of its kind; `number` is the index of what is wrong, or None."""

    def __init__(self, number):
        self.number = number


class UnknownLetter(KeyError):
    """The scheme has no such letter: `word`."""

    def __init__(self, word):
        self.word = word


class UnknownAddress(LookupError):
    """No visit has such an address: `lost`."""

    def __init__(self, lost):
        self.lost = lost


class InvalidNumber(IndexError):
    """A number is out of its range, or is none: `value`."""

    def __init__(self, value):
        self.value = value


class NothingToUndo(RuntimeError):
    """So many changes cannot be taken back or done again: `many`."""

    def __init__(self, many):
        self.many = many


class TooMany(OverflowError):
    """There is more of something than `limit`."""

    def __init__(self, limit):
        self.limit = limit


class Refused(ArithmeticError):
    """A change would break `pledge`."""

    def __init__(self, pledge):
        self.pledge = pledge


class NoQuotient(ZeroDivisionError):
    """There is no quotient by `divisor`."""

    def __init__(self, divisor):
        self.divisor = divisor
