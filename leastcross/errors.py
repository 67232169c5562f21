"""The refusals."""


class CrossError(ValueError):
    """Any refusal."""


class NoWeb(CrossError):
    """No web can be made of what was handed in."""


class NoDrawing(CrossError):
    """What was handed in is no drawing."""


class NoPoints(CrossError):
    """The points do not fit the web."""


class NoTie(CrossError):
    """The tie is none, or is not where it must be."""


class NoRoute(CrossError):
    """The route is none of the drawing."""


class NoLens(CrossError):
    """The lens is none of the drawing."""


class NoOrder(CrossError):
    """The order is none of the row."""


class NoText(CrossError):
    """The text is none of a drawing."""


class TooMany(CrossError):
    """There are more places than can be dealt with."""
