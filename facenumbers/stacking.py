"""Blocks that tile a stacked polytope, and volumes."""

from math import factorial

from facenumbers.checks import check_number, checked_facets
from facenumbers.errors import InvalidFace
from facenumbers.hulls import faces_with, homogeneous, lots, parts_of
from facenumbers.linear import determinant_size
from facenumbers.ratios import lowest, sum_of
from facenumbers.rows import face_row, g_row
from facenumbers.values import is_index_set


def blocks_of(polytope, number):
    """The blocks for the number, ascending."""
    facets = checked_facets(polytope)
    dimension, points = polytope
    check_number(number, 1, dimension // 2)
    many = dimension - number + 1
    # A face's parts are faces, so the greatest parts alone are looked at.
    faces = set(faces_with(facets, many))
    return tuple([
        lot for lot in lots(len(points), dimension + 1) if all([part in faces for part in parts_of(lot, many)])
    ])


def is_stacked(polytope, number):
    """Whether the blocks for the number tile the polytope."""
    checked_facets(polytope)
    dimension = polytope[0]
    check_number(number, 1, dimension // 2)
    return g_row(dimension, face_row(polytope))[number] == 0


def volume(polytope):
    """The volume of the polytope."""
    facets = checked_facets(polytope)
    return total_volume(polytope[1], [(0,) + facet for facet in facets if 0 not in facet])


def volume_of(polytope, face):
    """The volume of the simplex of so many points as a simplex has."""
    checked_facets(polytope)
    dimension, points = polytope
    if not is_index_set(face, len(points)) or len(face) != dimension + 1:
        raise InvalidFace(face)
    return simplex_volume(points, face)


def total_volume(points, simplices):
    """What the volumes of the simplices add up to."""
    return sum_of([simplex_volume(points, simplex) for simplex in simplices])


def simplex_volume(points, simplex):
    rows = [homogeneous(points[index]) for index in simplex]
    # The first column has the factors with which the points are taken: with ones there, the
    # determinant would be that of the ways from the first point.
    under = factorial(len(simplex) - 1)
    for row in rows:
        under = under * row[0]
    return lowest(determinant_size(rows), under)
