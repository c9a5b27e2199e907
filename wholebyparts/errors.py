"""The errors that this package raises."""


class PartError(ValueError):
    """What the errors over wrong values have in common."""


class InvalidStructure(PartError):
    """The value is no structure."""


class InvalidRow(PartError):
    """The value is no row of its structure."""


class InvalidFormula(PartError):
    """The value is no formula for the signature and the free variables at hand."""


class InvalidKind(PartError):
    """The value is by its form no kind."""


class InvalidReader(PartError):
    """The value is no reader."""


class InvalidWord(PartError):
    """The value is no word of the letters at hand."""


class InvalidRule(PartError):
    """The value is no rule."""


class InvalidShape(PartError):
    """The value is no shape."""


class InvalidParts(PartError):
    """The value is no tuple of parts, or no stock."""


class InvalidBook(PartError):
    """The value is no book of a game."""


class InvalidClaim(PartError):
    """The value is no claim."""


class InvalidText(PartError):
    """The value is no text, or no name."""


class InvalidOperation(PartError):
    """The values are right ones, but not for what is asked."""


class ParseError(PartError):
    """A text goes wrong at the spot."""

    def __init__(self, spot):
        self.spot = spot


class InvalidNumber(IndexError):
    """What is given is no number within its bounds."""

    def __init__(self, given):
        self.given = given


class UnknownName(KeyError):
    """Nothing has the name that is wanted."""

    def __init__(self, wanted):
        self.wanted = wanted


class TooMany(OverflowError):
    """More than the limit would be needed."""

    def __init__(self, limit):
        self.limit = limit


class NothingToUndo(LookupError):
    """Fewer calls can be undone than are wanted."""

    def __init__(self, wanted):
        self.wanted = wanted


class Refused(ArithmeticError):
    """The question is not answered; the reason is a tuple that begins with a word."""

    def __init__(self, reason):
        self.reason = reason
