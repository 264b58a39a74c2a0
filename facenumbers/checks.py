"""Arguments that several modules check alike."""

from facenumbers.errors import InvalidFace, InvalidNumber, InvalidPolytope, InvalidRow, InvalidSequence
from facenumbers.hulls import facets_or_none
from facenumbers.values import (
    MOST_POINTS_BEYOND, SEQUENCE_LIMIT, has_sequence_length, is_dimension, is_index_set, is_lacking_set, is_row,
    is_wanted_row, is_whole_between,
)


def checked_facets(polytope):
    """The facets of what must be a polytope: finding them is the check."""
    facets = facets_or_none(polytope)
    if facets is None:
        raise InvalidPolytope(polytope)
    return facets


def check_dimension(dimension):
    if not is_dimension(dimension):
        raise InvalidNumber(dimension)


def check_number(number, low, high):
    if not is_whole_between(number, low, high):
        raise InvalidNumber(number)


def check_points(dimension, points):
    check_number(points, dimension + 1, dimension + MOST_POINTS_BEYOND)


def check_row(dimension, row):
    if not is_row(row, dimension):
        raise InvalidRow(row)


def check_wanted_row(dimension, row):
    """A row that a polytope could have, as far as its number of points is concerned."""
    if not is_wanted_row(row, dimension):
        raise InvalidRow(row)


def check_face(polytope, face):
    if not is_index_set(face, len(polytope[1])):
        raise InvalidFace(face)


def check_facet(polytope, facets, facet):
    # A set first: (0, True) is equal to (0, 1), but none.
    check_face(polytope, facet)
    if facet not in facets:
        raise InvalidFace(facet)


def check_lacking_face(polytope, face):
    """A set that lacks some point."""
    if not is_lacking_set(face, len(polytope[1])):
        raise InvalidFace(face)


def check_sequence(sequence):
    if not has_sequence_length(sequence):
        raise InvalidSequence(None)
    check_all_between(sequence, -SEQUENCE_LIMIT, SEQUENCE_LIMIT)


def check_all_between(sequence, low, high):
    for index, number in enumerate(sequence):
        if not is_whole_between(number, low, high):
            raise InvalidSequence(index)
