"""The errors of the package: one class for each kind of failure."""


class FetchError(ValueError):
    """Above all errors that tell of a value of a wrong form."""


class InvalidRow(FetchError):
    """A value is no row, or no tuple of letters."""


class InvalidRows(FetchError):
    """A value is no rows, or no table."""


class InvalidFraction(FetchError):
    """A value is no fraction, or no tuple of such."""


class InvalidLots(FetchError):
    """A value is no lot, or no lots."""


class InvalidLibrary(FetchError):
    """A value is no library."""


class InvalidScheme(FetchError):
    """A value is no scheme."""


class InvalidShaded(FetchError):
    """A value is no scheme that shows no other book."""


class InvalidAnswers(FetchError):
    """A value is no answers that can come."""


class InvalidClaim(FetchError):
    """A value is no claim."""


class InvalidOperation(FetchError):
    """Values do not fit to one another, or not to what is asked."""


class ParseError(FetchError):
    """A text is refused at a spot."""

    def __init__(self, spot):
        self.spot = spot


class InvalidNumber(IndexError):
    """A given value is no integer within the bounds."""

    def __init__(self, given):
        self.given = given


class UnknownName(KeyError):
    """There is nothing of the wanted name."""

    def __init__(self, wanted):
        self.wanted = wanted


class TooMany(OverflowError):
    """More is asked than the limit lets."""

    def __init__(self, limit):
        self.limit = limit


class NothingToUndo(LookupError):
    """Fewer calls stand than are wanted back."""

    def __init__(self, wanted):
        self.wanted = wanted


class Refused(ArithmeticError):
    """What is asked cannot be; the reason is a tuple that begins with a word."""

    def __init__(self, reason):
        self.reason = reason
