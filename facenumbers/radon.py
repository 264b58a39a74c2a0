"""Polytopes with two points more than their dimension, and the one dependence of these."""

from facenumbers.affine import dependence_vectors
from facenumbers.checks import checked_facets
from facenumbers.errors import InvalidPolytope
from facenumbers.ratios import lowest


def radon_parts(polytope):
    """Both lots of the points, that with fewer points ahead."""
    return parts_by_sign(dependence_numbers(polytope))


def dependence_of(polytope):
    """The dependence that has 1 at the first index of the first lot."""
    numbers = dependence_numbers(polytope)
    first = parts_by_sign(numbers)[0][0]
    return tuple([lowest(number, numbers[first]) for number in numbers])


def dependence_numbers(polytope):
    """The one dependence, but for a factor, in whole numbers."""
    checked_facets(polytope)
    dimension, points = polytope
    if len(points) != dimension + 2:
        raise InvalidPolytope(polytope)
    return [vector[0] for vector in dependence_vectors(dimension, points)]


def parts_by_sign(numbers):
    """The places of those above 0 and of those below: the shorter one, then the lesser one, ahead."""
    above = tuple([index for index, number in enumerate(numbers) if number > 0])
    below = tuple([index for index, number in enumerate(numbers) if number < 0])
    if (len(above), above) < (len(below), below):
        return above, below
    return below, above
