"""The ring of a polytope: its forms, its ranks, and the monomials that make it."""

from facenumbers.checks import check_number, checked_facets
from facenumbers.errors import InvalidMonomial
from facenumbers.forms import base_and_free, forms_with, product_of_forms, times_monomial
from facenumbers.hulls import missing_with
from facenumbers.linear import is_full_modulo_prime, primitive, reduced
from facenumbers.monomials import monomials
from facenumbers.ratios import lowest, whole_numbers
from facenumbers.values import is_monomial


def base_of(polytope):
    """The pair of the base and the free indexes."""
    checked_facets(polytope)
    return base_and_free(polytope[1])


def forms_of(polytope):
    """The forms of all indexes."""
    checked_facets(polytope)
    return forms_with(polytope[1])


def rank_of(polytope, degree):
    """The rank of the ring in the degree."""
    facets = checked_facets(polytope)
    check_number(degree, 0, polytope[0] // 2 + 1)
    return len(taken_of_degree(polytope, facets, degree))


def taken(polytope):
    """The order ideal of the monomials that are no sums of those ahead."""
    facets = checked_facets(polytope)
    found = []
    for degree in range(polytope[0] // 2 + 1):
        found.extend(taken_of_degree(polytope, facets, degree))
    return tuple(found)


def told_by(polytope, monomial):
    """The taken monomials, and how often each is taken, of which the monomial is the sum."""
    facets = checked_facets(polytope)
    half = polytope[0] // 2
    if not is_monomial(monomial, variables_of(polytope)) or len(monomial) > half:
        raise InvalidMonomial(monomial)
    order, rows = relation_rows(polytope, facets, len(monomial))
    solved, spanned, divisor = reduced(rows, len(order))
    column = order.index(monomial)
    if column not in spanned:
        return ((monomial, (1, 1)),)
    row = solved[spanned.index(column)]
    # Behind the divisor, which stands at the monomial itself, the row has only taken ones.
    told = [at for at in range(column + 1, len(order)) if row[at] != 0]
    return tuple([(order[at], lowest(-row[at], divisor)) for at in reversed(told)])


def taken_of_degree(polytope, facets, degree):
    order, rows = relation_rows(polytope, facets, degree)
    if is_full_modulo_prime(rows, len(order)):
        return []
    spanned = reduced(rows, len(order))[1]
    return [order[at] for at in range(len(order)) if at not in spanned][::-1]


def is_basis(polytope, facets, chosen, degree):
    """Whether the chosen monomials of the degree make all others in the ring, as few as can be."""
    order, rows = relation_rows(polytope, facets, degree)
    others = [at for at, monomial in enumerate(order) if monomial not in chosen]
    if len(others) == len(order) and is_full_modulo_prime(rows, len(order)):
        return True
    columns = others + [order.index(monomial) for monomial in chosen]
    # With the others ahead these are the pivots, and no chosen one is, just where it is so.
    pivots = reduced([[row[at] for at in columns] for row in rows], len(order))[1]
    return pivots == list(range(len(others)))


def is_nought(polytope, facets, polynomial, degree):
    """Whether a polynomial of the degree, with whole numbers by monomials, is nought in the ring."""
    order, rows = relation_rows(polytope, facets, degree)
    if is_full_modulo_prime(rows, len(order)):
        return True
    solved, pivots, divisor = reduced(rows, len(order))
    left = [divisor * polynomial.get(monomial, 0) for monomial in order]
    for row, pivot in zip(solved, pivots):
        often = polynomial.get(order[pivot], 0)
        left = [one - often * two for one, two in zip(left, row)]
    return not any(left)


def variables_of(polytope):
    return len(polytope[1]) - polytope[0] - 1


def relation_rows(polytope, facets, degree):
    """The monomials of the degree, the last one in order first, and each relation's factors at them.

    So the rows, solved, have their pivots at the monomials that are sums of those ahead of
    them in order, and tell these sums.
    """
    order = monomials(variables_of(polytope), degree)[::-1]
    relations = relations_of(polytope, facets, degree)
    return order, [primitive([relation.get(monomial, 0) for monomial in order]) for relation in relations]


def relations_of(polytope, facets, degree):
    """Relations of the degree, as polynomials in whole numbers, that make all others."""
    points = polytope[1]
    forms = [whole_form(form) for form in forms_with(points)]
    found = []
    for many in range(2, degree + 1):
        factors = monomials(variables_of(polytope), degree - many)
        for face in missing_with(facets, len(points), many):
            product_of_face = product_of_forms([forms[index] for index in face])
            found.extend([times_monomial(product_of_face, monomial) for monomial in factors])
    return found


def whole_form(form):
    # A factor at a form is one at its relations, and these are taken any ratio times.
    return primitive(whole_numbers(form))
