"""The errors of the package.

Each one stands right under FaceError, so none takes its attribute from another one.
"""


class FaceError(ValueError):
    """Whatever this package finds wrong."""


class InvalidPolytope(FaceError):
    """What should be a polytope is none."""

    def __init__(self, given):
        self.given = given


class InvalidNumber(FaceError):
    """What should be a whole number within told bounds is none."""

    def __init__(self, given):
        self.given = given


class InvalidRow(FaceError):
    """What should be a row for the dimension is none."""

    def __init__(self, given):
        self.given = given


class InvalidFace(FaceError):
    """What should be a set of indexes, or a facet, is none."""

    def __init__(self, given):
        self.given = given


class InvalidMonomial(FaceError):
    """What should be a monomial is none, or has too great a degree."""

    def __init__(self, given):
        self.given = given


class InvalidIdeal(FaceError):
    """What should be an order ideal is none."""

    def __init__(self, given):
        self.given = given


class InvalidDirection(FaceError):
    """What should be a direction is none."""

    def __init__(self, given):
        self.given = given


class InvalidOrdering(FaceError):
    """What should be an ordering of the facets is none."""

    def __init__(self, given):
        self.given = given


class NoSequence(FaceError):
    """A tuple of whole numbers is no M-sequence."""

    def __init__(self, given):
        self.given = given


class NoPolytope(FaceError):
    """No polytope has this row."""

    def __init__(self, given):
        self.given = given


class NoFace(FaceError):
    """A set of points is no face, so nothing supports it."""

    def __init__(self, given):
        self.given = given


class IsFace(FaceError):
    """A set of points is a face, so nothing bars it."""

    def __init__(self, given):
        self.given = given


class TooMany(FaceError):
    """An answer would have too many parts."""

    def __init__(self, given):
        self.given = given


class TooLong(FaceError):
    """An answer would have numbers with too many figures."""

    def __init__(self, given):
        self.given = given


class InvalidSequence(FaceError):
    """What should be a sequence of whole numbers is none."""

    def __init__(self, index):
        self.index = index


class InvalidText(FaceError):
    """What should be the text of a polytope is none."""

    def __init__(self, index):
        self.index = index


class InvalidLines(FaceError):
    """What should be lines of text are none."""

    def __init__(self, index):
        self.index = index


class NotGeneral(FaceError):
    """A direction leaves two facets at one place."""
