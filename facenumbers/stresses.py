"""Stresses: what a polytope's edges bear while its points stay where they are."""

from facenumbers.checks import checked_facets
from facenumbers.errors import InvalidPolytope
from facenumbers.forms import product_of_forms
from facenumbers.hulls import equations_of, faces_with, gale_vectors, missing_with
from facenumbers.linear import reduced
from facenumbers.monomials import monomials
from facenumbers.ratios import common_under, lowest, multiplied
from facenumbers.values import is_ratio, is_tuple_of_length


def edges_of(polytope):
    """The edges, ascending."""
    return tuple(faces_with(checked_solid(polytope), 2))


def is_stress(polytope, value):
    """Whether the value, whatever it is, is a stress."""
    edges = faces_with(checked_solid(polytope), 2)
    if not is_tuple_of_length(value, len(edges)) or not all([is_ratio(part) for part in value]):
        return False
    # A factor at all ratios, or at all numbers of one coordinate, changes no nought.
    stress = multiplied(value, common_under(value))
    return all([is_balanced(edges, stress, numbers) for numbers in coordinates_of(polytope)])


def stresses_of(polytope):
    """The reduced basis of the stresses.

    A symmetric form on the dependences gives each pair of points the number that it has for
    both points' vectors. These numbers are the sums of the rows below, and, at each point, the
    pairs' numbers times the ways to the other points add up to nought: so those with noughts
    at the pairs that are no edges are the stresses, and all stresses are such.
    """
    facets = checked_solid(polytope)
    dimension, points = polytope
    missing = missing_with(facets, len(points), 2)
    vectors = dependence_vectors(dimension, points)
    products = [
        product_of_forms([vectors[one], vectors[two]])
        for one, two in missing + faces_with(facets, 2)
    ]
    degree_two = monomials(len(points) - dimension - 1, 2)
    rows = [[polynomial[monomial] for polynomial in products] for monomial in degree_two]
    solved, pivots, divisor = reduced(rows, len(products))
    return tuple([
        tuple([lowest(number, divisor) for number in row[len(missing):]])
        for row, pivot in zip(solved, pivots)
        if pivot >= len(missing)
    ])


def checked_solid(polytope):
    """The facets of what must be a polytope of dimension 3 or more."""
    facets = checked_facets(polytope)
    if polytope[0] == 2:
        raise InvalidPolytope(polytope)
    return facets


def coordinates_of(polytope):
    """For each coordinate whole numbers, what the points have there times one factor."""
    found = []
    for at in range(polytope[0]):
        ratios = [point[at] for point in polytope[1]]
        found.append(multiplied(ratios, common_under(ratios)))
    return found


def is_balanced(edges, stress, numbers):
    """Whether at each point the stressed ways to the others add up to nought in a coordinate."""
    totals = [0] * len(numbers)
    for (one, two), part in zip(edges, stress):
        way = part * (numbers[two] - numbers[one])
        totals[one] += way
        totals[two] -= way
    return not any(totals)


def dependence_vectors(dimension, points):
    """For each point its whole numbers in a basis of the dependences."""
    # The hull's vectors are those of the points taken with factors: the signs alone mattered there.
    factors = equations_of(points)[0]
    vectors = gale_vectors(dimension, points)
    return [[factor * number for number in vector] for factor, vector in zip(factors, vectors)]
