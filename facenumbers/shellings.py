"""Orderings of a polytope's facets: restrictions, shellings, and those along a line."""

from facenumbers.affine import mean_of
from facenumbers.checks import checked_facets
from facenumbers.errors import InvalidDirection, InvalidOrdering, NotGeneral
from facenumbers.hulls import facet_function, height_at, is_part
from facenumbers.ratios import whole_numbers
from facenumbers.values import is_index_set, is_point


def line_ordering(polytope, direction):
    """The facets as a line from the middle passes their hyperplanes, then from the other side."""
    facets = checked_facets(polytope)
    if not is_point(direction, polytope[0]):
        raise InvalidDirection(direction)
    quotients = quotients_of(polytope, facets, direction)
    if len(set(quotients)) < len(quotients):
        raise NotGeneral()
    return tuple([facet for _, facet in sorted(list(zip(quotients, facets)), reverse=True)])


def restrictions(polytope, ordering):
    """The restriction of each facet, in order."""
    check_ordering(polytope, checked_facets(polytope), ordering)
    return restrictions_in(ordering)


def is_shelling(polytope, ordering):
    """Whether the ordering is a shelling."""
    check_ordering(polytope, checked_facets(polytope), ordering)
    return first_break(ordering) is None


def is_ordering(polytope, facets, value):
    """Whether the value, whatever it is, has all the facets, each once."""
    many = len(polytope[1])
    # Sets first: (0, True) is equal to (0, 1), but none.
    if not isinstance(value, tuple) or not all([is_index_set(part, many) for part in value]):
        return False
    return sorted(value) == list(facets)


def check_ordering(polytope, facets, ordering):
    if not is_ordering(polytope, facets, ordering):
        raise InvalidOrdering(ordering)


def quotients_of(polytope, facets, direction):
    """For each facet a whole number: they are in order, and alike, as the quotients T / S are."""
    middle = mean_of(polytope[1])
    ways = whole_numbers(direction)
    functions = [facet_function(polytope, facet) for facet in facets]
    # One factor at all S, and one at all T, changes no order.
    depths = [height_at(function, middle) for function in functions]
    rises = [-sum([one * two for one, two in zip(function[1:], ways)]) for function in functions]
    # Unlike quotients differ by 1 over both depths or more, so they differ by 1 or more here.
    scale = max(depths) ** 2
    return [rise * scale // depth for rise, depth in zip(rises, depths)]


def restrictions_in(ordering):
    return tuple([restriction_at(ordering, at) for at in range(len(ordering))])


def restriction_at(ordering, at):
    facet = ordering[at]
    ahead = ordering[:at]
    found = []
    for place, index in enumerate(facet):
        others = facet[:place] + facet[place + 1:]
        if any([is_part(others, other) for other in ahead]):
            found.append(index)
    return tuple(found)


def first_break(ordering):
    """The first pair of places of which the facet ahead has the other's restriction; None if none."""
    for at, restriction in enumerate(restrictions_in(ordering)):
        for ahead in range(at):
            if is_part(restriction, ordering[ahead]):
                return at, ahead
    return None
