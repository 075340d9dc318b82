"""The errors that the functions raise."""


class SeveralmapsError(ValueError):
    """Every error of the package is one of these."""


class BadModule(SeveralmapsError):
    """What stands in the place of a module is none."""


class BadPassage(SeveralmapsError):
    """What stands in the place of a passage, or of a tuple of passages, is none."""


class BadArgument(SeveralmapsError):
    """Another argument has a value that the function does not take."""


class BadText(SeveralmapsError):
    """A text is not the textual form of a module."""


class TooLarge(SeveralmapsError):
    """A module is larger than the function takes it."""


class BadLine(SeveralmapsError):
    """A line is none that a desk takes."""
