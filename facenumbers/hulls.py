"""The facets of points, found among the few points that a facet leaves out."""

from itertools import combinations

from facenumbers.linear import determinant, kernel
from facenumbers.ratios import common_under, multiplied
from facenumbers.values import has_polytope_form


def homogeneous(point):
    """Whole numbers: a factor above 0, and the point's worths times this factor."""
    factor = common_under(point)
    return [factor] + multiplied(point, factor)


def equations_of(points):
    """What the dependences are perpendicular to, the points taken with factors above 0."""
    columns = [homogeneous(point) for point in points]
    return [[column[at] for column in columns] for at in range(len(columns[0]))]


def lots(many, size):
    """All sets of so many of the indexes, ascending."""
    return list(combinations(range(many), size))


def gale_vectors(dimension, points):
    """For each point its numbers in a basis of the points' dependences.

    None if the points lie in one hyperplane. That the points are taken with factors
    above 0 changes no sign.
    """
    basis = kernel(equations_of(points), len(points))
    if len(basis) != len(points) - dimension - 1:
        return None
    return [[vector[index] for vector in basis] for index in range(len(points))]


def heights(rest, minors):
    """What an affine function that is 0 at all points but the rest has at these.

    It is perpendicular to all dependences, so it is the one dependence of the rest's Gale
    vectors: Cramer's rule tells it. All noughts: the other points lie in a lesser flat.
    """
    found = []
    for at in range(len(rest)):
        minor = minors[rest[:at] + rest[at + 1:]]
        found.append(-minor if at % 2 == 1 else minor)
    return found


def simplicial_facets(vectors, size):
    """The facets, ascending, that leave out so many points; None if one is no simplex."""
    many = len(vectors)
    minors = {lot: determinant([vectors[index] for index in lot]) for lot in lots(many, size - 1)}
    facets = []
    for rest in lots(many, size):
        found = heights(rest, minors)
        cut = min(found) < 0 < max(found)
        if any(found) and not cut:
            if 0 in found:
                return None
            facets.append(tuple([index for index in range(many) if index not in rest]))
    return sorted(facets)


def facets_or_none(value):
    """The tuple of the facets, ascending, of a polytope; None for what is no polytope."""
    if not has_polytope_form(value):
        return None
    dimension, points = value
    vectors = gale_vectors(dimension, points)
    if vectors is None:
        return None
    facets = simplicial_facets(vectors, len(points) - dimension)
    if facets is None:
        return None
    if len({index for facet in facets for index in facet}) < len(points):
        return None
    return tuple(facets)


def faces_with(facets, many):
    """All faces of so many points, ascending."""
    rows = [list(facet) for facet in facets]
    return sorted({face for row in rows for face in combinations(row, many)})


def missing_with(facets, points, many):
    """The missing faces of so many points, out of so many points in all."""
    faces = set(faces_with(facets, many))
    lesser = set(faces_with(facets, many - 1))
    return [
        lot
        for lot in lots(points, many)
        if lot not in faces and all([lot[:at] + lot[at + 1:] in lesser for at in range(many)])
    ]


def is_part(face, facet):
    return all([index in facet for index in face])


def parts_of(face, many):
    """All parts of so many points, ascending."""
    row = list(face)
    return list(combinations(row, many))


def height_at(function, point):
    """What an affine function in whole numbers is at the point, taken with a factor above 0."""
    return sum([one * two for one, two in zip(function, homogeneous(point))])


def facet_function(polytope, facet):
    """The affine function that is 0 at a facet's points and above 0 at all others.

    It is told in whole numbers without a common divisor above 1.
    """
    dimension, points = polytope
    function = kernel([homogeneous(points[index]) for index in facet], dimension + 1)[0]
    # All other points lie on one side, so the first one tells which.
    other = [index for index in range(len(points)) if index not in facet][0]
    if height_at(function, points[other]) < 0:
        return [-number for number in function]
    return function


def facet_inequality(polytope, facet):
    """The inequality of what surely is a facet of a polytope."""
    function = facet_function(polytope, facet)
    return tuple([-number for number in function[1:]]), function[0]
