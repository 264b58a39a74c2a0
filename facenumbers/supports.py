"""What shows a set of points to be a face, and what shows it to be none."""

from itertools import combinations

from facenumbers.affine import dependence_vectors, is_dependence
from facenumbers.checks import check_lacking_face, checked_facets
from facenumbers.errors import IsFace, NoFace
from facenumbers.hulls import facet_function, height_at, is_part
from facenumbers.linear import kernel, primitive
from facenumbers.ratios import whole_numbers
from facenumbers.values import is_tuple_of_ratios


def is_supporting(polytope, face, value):
    """Whether the value, whatever it is, is an affine function that supports the set."""
    checked_facets(polytope)
    check_lacking_face(polytope, face)
    dimension, points = polytope
    if not is_tuple_of_ratios(value, dimension + 1):
        return False
    function = whole_numbers(value)
    heights = [height_at(function, point) for point in points]
    return all([height == 0 if index in face else height > 0 for index, height in enumerate(heights)])


def is_barring(polytope, face, value):
    """Whether the value, whatever it is, is a dependence that bars the set."""
    checked_facets(polytope)
    check_lacking_face(polytope, face)
    points = polytope[1]
    if not is_tuple_of_ratios(value, len(points)):
        return False
    numbers = whole_numbers(value)
    return is_above_outside(face, numbers) and is_dependence(points, numbers)


def supporting(polytope, face):
    """An affine function that supports the set."""
    facets = checked_facets(polytope)
    check_lacking_face(polytope, face)
    around = [facet for facet in facets if is_part(face, facet)]
    if len(around) == 0:
        raise NoFace(face)
    # Each point that is not in the face is left out by one of the facets around it.
    function = [0] * (polytope[0] + 1)
    for facet in around:
        function = [one + two for one, two in zip(function, facet_function(polytope, facet))]
    return told_whole(function)


def barring(polytope, face):
    """A dependence that bars the set."""
    facets = checked_facets(polytope)
    check_lacking_face(polytope, face)
    if any([is_part(face, facet) for facet in facets]):
        raise IsFace(face)
    dimension, points = polytope
    vectors = dependence_vectors(dimension, points)
    outside = [vector for index, vector in enumerate(vectors) if index not in face]
    told = [dependence_along(way, vectors) for way in extreme_ways(outside, len(vectors[0]))]
    # By Farkas's lemma one of them is there.
    return told_whole([numbers for numbers in told if is_above_outside(face, numbers)][0])


def is_above_outside(face, numbers):
    """Whether the numbers are from 0 on at the points outside the set, and above 0 at one."""
    outside = [number for index, number in enumerate(numbers) if index not in face]
    return min(outside) >= 0 and max(outside) > 0


def dependence_along(way, vectors):
    return [sum([one * two for one, two in zip(way, vector)]) for vector in vectors]


def extreme_ways(vectors, size):
    """Ways, of both signs, to one of which no vector leads down, and some lead up, if there is any.

    Those to which no vector leads down are a cone. An edge of it is perpendicular to one
    vector less than the vectors have as their rank, which is up to their size.
    """
    found = []
    for many in range(size):
        for lot in combinations(vectors, many):
            for way in kernel(lot, size):
                found.append(way)
                found.append([-number for number in way])
    return found


def told_whole(numbers):
    """Whole numbers as ratios, without a common divisor above 1."""
    return tuple([(number, 1) for number in primitive(numbers)])
