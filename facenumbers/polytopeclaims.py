"""Claims of a polytope: what stands behind their words, and which papers show them to be so."""

from facenumbers.hulls import facets_or_none, is_part
from facenumbers.monomials import has_ideal_form, place_in_order
from facenumbers.ratios import whole_numbers
from facenumbers.rings import is_basis, is_nought, variables_of
from facenumbers.rows import face_row
from facenumbers.shellings import is_ordering, is_shelling, restriction_at
from facenumbers.stacking import blocks_of, total_volume, volume
from facenumbers.stresses import edges_of, is_stress, totals_with
from facenumbers.supports import is_barring, is_supporting
from facenumbers.values import (
    is_index_set, is_lacking_set, is_monomial, is_pair_of_wholes, is_ratio, is_row, is_tuple_of_length,
    is_tuple_of_ratios, is_whole_between,
)


def is_of_polytope(told, many):
    """Whether so many things are told, the first one a polytope."""
    return len(told) == many and facets_or_none(told[0]) is not None


def is_polytope_and_row(told):
    return is_of_polytope(told, 2) and is_row(told[1], told[0][0])


def is_polytope_and_face(told):
    return is_of_polytope(told, 2) and is_lacking_set(told[1], len(told[0][1]))


def is_polytope_and_ideal(told):
    return is_of_polytope(told, 2) and has_ideal_form(told[1], variables_of(told[0]))


def is_polytope_and_sum(told):
    """Also a monomial and pairs of a monomial, ascending in order, and a ratio that is not 0."""
    if not is_of_polytope(told, 3):
        return False
    polytope, monomial, pairs = told
    variables = variables_of(polytope)
    if not is_monomial(monomial, variables) or len(monomial) > polytope[0] // 2 + 1:
        return False
    return isinstance(pairs, tuple) and is_sum(pairs, variables, len(monomial))


def is_sum(pairs, variables, degree):
    if not all([is_monomial_and_ratio(pair, variables, degree) for pair in pairs]):
        return False
    places = [place_in_order(monomial) for monomial, _ in pairs]
    return all([places[at - 1] < places[at] for at in range(1, len(places))])


def is_monomial_and_ratio(value, variables, degree):
    if not is_tuple_of_length(value, 2):
        return False
    monomial, ratio = value
    return is_monomial(monomial, variables) and len(monomial) == degree and is_ratio(ratio) and ratio[0] != 0


def is_polytope_and_ordering(told):
    return is_of_polytope(told, 2) and is_ordering(told[0], facets_or_none(told[0]), told[1])


def is_polytope_and_number(told):
    return is_of_polytope(told, 2) and is_whole_between(told[1], 1, told[0][0] // 2)


def is_polytope_and_ratios(told):
    """Also a ratio for each edge, from dimension 3 on."""
    return (
        is_of_polytope(told, 2)
        and told[0][0] > 2
        and is_tuple_of_ratios(told[1], len(edges_of(told[0])))
    )


def is_nothing(paper):
    return is_tuple_of_length(paper, 0)


def shows_row_of(told, paper):
    polytope, row = told
    return is_nothing(paper) and face_row(polytope) == row


def shows_face(told, paper):
    """An affine function that supports the set."""
    polytope, face = told
    return is_supporting(polytope, face, paper)


def shows_no_face(told, paper):
    """A dependence that bars the set."""
    polytope, face = told
    return is_barring(polytope, face, paper)


def shows_counted_by(told, paper):
    polytope, ideal = told
    half = polytope[0] // 2
    if not is_nothing(paper) or len(ideal[-1]) > half:
        return False
    facets = facets_or_none(polytope)
    # Behind the last degree there is none: then the rank there is 0.
    return all([
        is_basis(polytope, facets, [monomial for monomial in ideal if len(monomial) == degree], degree)
        for degree in range(half + 2)
    ])


def shows_told_by(told, paper):
    polytope, monomial, pairs = told
    if not is_nothing(paper):
        return False
    # The difference, taken with a factor that makes it whole.
    factor, *parts = whole_numbers([(1, 1)] + [ratio for _, ratio in pairs])
    polynomial = {monomial: factor}
    for (one, _), part in zip(pairs, parts):
        polynomial[one] = polynomial.get(one, 0) - part
    return is_nought(polytope, facets_or_none(polytope), polynomial, len(monomial))


def shows_shelling(told, paper):
    polytope, ordering = told
    return is_nothing(paper) and is_shelling(polytope, ordering)


def shows_no_shelling(told, paper):
    """Two places: the facet at the second one, which is ahead, has the other's restriction."""
    ordering = told[1]
    if not is_pair_of_wholes(paper):
        return False
    at, ahead = paper
    return 0 <= ahead < at < len(ordering) and is_part(restriction_at(ordering, at), ordering[ahead])


def shows_stacked(told, paper):
    """The blocks, which add up to the volume."""
    polytope, number = told
    points = polytope[1]
    # Sets first: (0, True) is equal to (0, 1), but none.
    if not isinstance(paper, tuple) or not all([is_index_set(part, len(points)) for part in paper]):
        return False
    return blocks_of(polytope, number) == paper and total_volume(points, paper) == volume(polytope)


def shows_not_stacked(told, paper):
    """A monomial of the degree that is not nought in the ring."""
    polytope, degree = told
    if not is_monomial(paper, variables_of(polytope)) or len(paper) != degree:
        return False
    return not is_nought(polytope, facets_or_none(polytope), {paper: 1}, degree)


def shows_stress(told, paper):
    polytope, ratios = told
    return is_nothing(paper) and is_stress(polytope, ratios)


def shows_no_stress(told, paper):
    """An index and a coordinate in which the sum there is not nought."""
    polytope, ratios = told
    if not is_pair_of_wholes(paper):
        return False
    index, at = paper
    if not 0 <= index < len(polytope[1]) or not 0 <= at < polytope[0]:
        return False
    return totals_with(polytope, edges_of(polytope), ratios)[at][index] != 0


# What must stand behind each word of a claim.
POLYTOPE_FORMS = {
    "row of": is_polytope_and_row,
    "face": is_polytope_and_face,
    "no face": is_polytope_and_face,
    "counted by": is_polytope_and_ideal,
    "told by": is_polytope_and_sum,
    "shelling": is_polytope_and_ordering,
    "no shelling": is_polytope_and_ordering,
    "stacked": is_polytope_and_number,
    "not stacked": is_polytope_and_number,
    "stress": is_polytope_and_ratios,
    "no stress": is_polytope_and_ratios,
}

# Whether a paper shows what stands behind the word.
POLYTOPE_PAPERS = {
    "row of": shows_row_of,
    "face": shows_face,
    "no face": shows_no_face,
    "counted by": shows_counted_by,
    "told by": shows_told_by,
    "shelling": shows_shelling,
    "no shelling": shows_no_shelling,
    "stacked": shows_stacked,
    "not stacked": shows_not_stacked,
    "stress": shows_stress,
    "no stress": shows_no_stress,
}
