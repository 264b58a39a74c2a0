"""The base of a polytope's points and their forms, and products of the forms."""

from facenumbers.hulls import equations_of
from facenumbers.linear import reduced
from facenumbers.ratios import lowest


def base_and_free(points):
    """The pair of the base and the free indexes of points that do not lie in one hyperplane."""
    equations = equations_of(points)
    return parted(reduced(equations, len(points))[1], len(points))


def parted(base, many):
    return tuple(base), tuple([index for index in range(many) if index not in base])


def forms_with(points):
    """The forms of all points, tuples of ratios."""
    equations = equations_of(points)
    solved, pivots, divisor = reduced(equations, len(points))
    base, free = parted(pivots, len(points))
    factors = equations[0]
    forms = {index: unit_form(free, index) for index in free}
    for index, row in zip(base, solved):
        # The columns are the points taken with factors, so these are taken out again.
        forms[index] = tuple([lowest(-row[one] * factors[index], divisor * factors[one]) for one in free])
    return tuple([forms[index] for index in range(len(points))])


def unit_form(free, index):
    return tuple([(1, 1) if other == index else (0, 1) for other in free])


def times_form(polynomial, form):
    """The product of a polynomial, a dict from monomials to whole numbers, and a form."""
    found = {}
    for monomial, factor in polynomial.items():
        for place, number in enumerate(form):
            longer = tuple(sorted(monomial + (place + 1,)))
            found[longer] = found.get(longer, 0) + factor * number
    return found


def product_of_forms(forms):
    polynomial = {(): 1}
    for form in forms:
        polynomial = times_form(polynomial, form)
    return polynomial


def times_monomial(polynomial, monomial):
    return {tuple(sorted(one + monomial)): polynomial[one] for one in polynomial}
