"""Polytopes: their facets, inequalities, faces and missing faces."""

from facenumbers.checks import check_face, check_facet, check_number, checked_facets
from facenumbers.hulls import facet_inequality, faces_with, facets_or_none, is_part, missing_with


def is_polytope(value):
    """Whether the value, whatever it is, is a polytope."""
    return facets_or_none(value) is not None


def facets_of(polytope):
    """The facets, ascending."""
    return checked_facets(polytope)


def inequality_of(polytope, facet):
    """The pair (A, B): A's sum for a point is B in the facet's hyperplane, else below."""
    check_facet(polytope, checked_facets(polytope), facet)
    return facet_inequality(polytope, facet)


def is_face(polytope, face):
    """Whether a set of indexes is part of a facet."""
    facets = checked_facets(polytope)
    check_face(polytope, face)
    return any([is_part(face, facet) for facet in facets])


def faces_of(polytope, many):
    """All faces of so many points, ascending."""
    facets = checked_facets(polytope)
    check_number(many, 0, polytope[0])
    return tuple(faces_with(facets, many))


def missing_faces(polytope):
    """All missing faces, ascending."""
    facets = checked_facets(polytope)
    dimension, points = polytope
    found = []
    # Each point is a face, and no D + 1 points are one: no missing face has more than these.
    for many in range(2, dimension + 2):
        found.extend(missing_with(facets, len(points), many))
    return tuple(sorted(found))
