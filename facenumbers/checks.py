"""Arguments that several modules check alike."""

from facenumbers.errors import InvalidFace, InvalidNumber, InvalidPolytope, InvalidRow
from facenumbers.hulls import facets_or_none
from facenumbers.values import is_dimension, is_index_set, is_row, is_whole_between


def checked_facets(polytope):
    """The facets of what must be a polytope: finding them is the check."""
    facets = facets_or_none(polytope)
    if facets is None:
        raise InvalidPolytope(polytope)
    return facets


def check_dimension(dimension):
    if not is_dimension(dimension):
        raise InvalidNumber(dimension)


def check_number(number, low, high):
    if not is_whole_between(number, low, high):
        raise InvalidNumber(number)


def check_row(dimension, row):
    if not is_row(row, dimension):
        raise InvalidRow(row)


def check_face(polytope, face):
    if not is_index_set(face, len(polytope[1])):
        raise InvalidFace(face)
