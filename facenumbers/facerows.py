"""Which rows are face rows of simplicial polytopes: the g-theorem."""

from math import comb

from facenumbers.checks import check_dimension, check_points, check_wanted_row
from facenumbers.macaulay import is_too_many, most_next
from facenumbers.rows import g_row, h_row, row_of


def why_none(dimension, row):
    """What bars the row; None if it is the face row of some polytope."""
    check_dimension(dimension)
    check_wanted_row(dimension, row)
    h = h_row(dimension, row)
    for at in range(dimension + 1):
        if h[at] != h[dimension - at]:
            return "unlike", at
    return fault_of(g_row(dimension, row))


def fault_of(sequence):
    """At what the sequence, which begins with 1, first fails to be an M-sequence."""
    for at in range(1, len(sequence)):
        if sequence[at] < 0:
            return "below", at
        if is_too_many(sequence, at):
            return "too many", at
    return None


def is_face_row(dimension, row):
    """Whether the row is the face row of some polytope."""
    return why_none(dimension, row) is None


def rows_with(dimension, points):
    """The face rows of all polytopes of the dimension with so many points, ascending."""
    check_dimension(dimension)
    check_points(dimension, points)
    sequences = [(1, points - dimension - 1)]
    for degree in range(1, dimension // 2):
        sequences = [
            sequence + (number,)
            for sequence in sequences
            for number in range(most_next(sequence[degree], degree) + 1)
        ]
    return tuple(sorted([row_of(dimension, sequence) for sequence in sequences]))


def most_row(dimension, points):
    """The face row with the most faces of each dimension."""
    check_dimension(dimension)
    check_points(dimension, points)
    more = points - dimension - 1
    most = [comb(more + degree - 1, degree) for degree in range(1, dimension // 2 + 1)]
    return row_of(dimension, (1,) + tuple(most))


def least_row(dimension, points):
    """The face row with the fewest faces of each dimension."""
    check_dimension(dimension)
    check_points(dimension, points)
    return row_of(dimension, (1, points - dimension - 1) + (0,) * (dimension // 2 - 1))
