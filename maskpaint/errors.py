"""The errors that the package raises for values that are not allowed."""


class PaintError(ValueError):
    """The base class of all errors of the package."""


class BadMap(PaintError):
    """A value is no map; part is "map", "houses" or "pairs", whichever is wrong first."""

    def __init__(self, part):
        super().__init__(f"no map, by its {part}")
        self.part = part


class BadHouse(PaintError):
    """A value is no house of the map."""


class BadLot(PaintError):
    """A value is no ascending tuple of houses of the map."""


class BadComing(PaintError):
    """A value is no tuple of unlike houses of the map."""


class BadNumber(PaintError):
    """A value is no integer, or one beyond the limits."""


class BadTree(PaintError):
    """A value is no tree."""


class BadWit(PaintError):
    """A value is no wit; index is that of the first wrong thing in it, or None."""

    def __init__(self, index):
        super().__init__(f"no wit, index {index}")
        self.index = index


class BadStep(PaintError):
    """A step cannot be taken with the houses that have come."""


class TooMany(PaintError):
    """A map has no room for one house more; most is how many it may have."""

    def __init__(self, most):
        super().__init__(f"no more houses than {most}")
        self.most = most


class BadLine(PaintError):
    """A line of a text is wrong; line is its number, from 0."""

    def __init__(self, line):
        super().__init__(f"wrong line {line}")
        self.line = line


class BadText(PaintError):
    """A text tells no tree; place is that of the first wrong sign, or None."""

    def __init__(self, place):
        super().__init__(f"wrong text, place {place}")
        self.place = place


class BadFool(PaintError):
    """A value is no coming that fools the wit."""
