"""The errors of the package."""


class SumsaidError(ValueError):
    """The base class of all errors of the package."""


class TooLarge(SumsaidError):
    """What would have to be made is too large."""


class InvalidWord(SumsaidError):
    """A word of a written saying cannot be read."""

    def __init__(self, number):
        SumsaidError.__init__(self, f"word {number} cannot be read")
        self.number = number


class UnknownName(SumsaidError):
    """A book has no saying with that name."""


class NotFitting(SumsaidError):
    """What should be kept is not a saying."""
