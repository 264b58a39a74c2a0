"""Stresses: what a polytope's edges bear while its points stay where they are."""

from facenumbers.affine import coordinates_of, dependence_vectors
from facenumbers.checks import checked_facets
from facenumbers.errors import InvalidPolytope
from facenumbers.forms import product_of_forms
from facenumbers.hulls import faces_with, missing_with
from facenumbers.linear import reduced
from facenumbers.monomials import monomials
from facenumbers.ratios import lowest, whole_numbers
from facenumbers.values import is_tuple_of_ratios


def edges_of(polytope):
    """The edges, ascending."""
    return tuple(faces_with(checked_solid(polytope), 2))


def is_stress(polytope, value):
    """Whether the value, whatever it is, is a stress."""
    edges = faces_with(checked_solid(polytope), 2)
    if not is_tuple_of_ratios(value, len(edges)):
        return False
    return not any([any(totals) for totals in totals_with(polytope, edges, value)])


def stresses_of(polytope):
    """The reduced basis of the stresses.

    A symmetric form on the dependences gives each pair of points the number that it has for
    both points' vectors. These numbers are the sums of the rows below, and, at each point, the
    pairs' numbers times the ways to the other points add up to nought: so those with noughts
    at the pairs that are no edges are the stresses, and all stresses are such.
    """
    facets = checked_solid(polytope)
    dimension, points = polytope
    missing = missing_with(facets, len(points), 2)
    vectors = dependence_vectors(dimension, points)
    products = [
        product_of_forms([vectors[one], vectors[two]])
        for one, two in missing + faces_with(facets, 2)
    ]
    degree_two = monomials(len(points) - dimension - 1, 2)
    rows = [[polynomial[monomial] for polynomial in products] for monomial in degree_two]
    solved, pivots, divisor = reduced(rows, len(products))
    return tuple([
        tuple([lowest(number, divisor) for number in row[len(missing):]])
        for row, pivot in zip(solved, pivots)
        if pivot >= len(missing)
    ])


def checked_solid(polytope):
    """The facets of what must be a polytope of dimension 3 or more."""
    facets = checked_facets(polytope)
    if polytope[0] == 2:
        raise InvalidPolytope(polytope)
    return facets


def totals_with(polytope, edges, ratios):
    """For each coordinate whole numbers, 0 at just the points at which the ratios' sum is nought."""
    # A factor at all ratios, or at all numbers of one coordinate, changes no nought.
    stress = whole_numbers(ratios)
    return [totals_of(edges, stress, numbers) for numbers in coordinates_of(polytope[1])]


def totals_of(edges, stress, numbers):
    """For each point the sum of the stressed ways to the others, in the coordinate of the numbers."""
    totals = [0] * len(numbers)
    for (one, two), part in zip(edges, stress):
        way = part * (numbers[two] - numbers[one])
        totals[one] += way
        totals[two] -= way
    return totals
