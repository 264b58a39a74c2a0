"""New polytopes out of old ones: free sums, and a point put onto a facet."""

from facenumbers.affine import mean_of
from facenumbers.checks import check_facet, checked_facets
from facenumbers.errors import TooLong, TooMany
from facenumbers.hulls import facet_function, height_at, homogeneous
from facenumbers.ratios import lowest
from facenumbers.values import GREATEST_DIMENSION, MOST_FIGURES, MOST_POINTS_BEYOND
from facenumbers.words import shown_whole


def free_sum(polytope, other):
    """Both polytopes with their middles at one point, in perpendicular spaces."""
    checked_facets(polytope)
    checked_facets(other)
    dimension = polytope[0] + other[0]
    if dimension > GREATEST_DIMENSION:
        raise TooMany(dimension)
    check_how_many(dimension, len(polytope[1]) + len(other[1]))
    ahead = ((0, 1),) * polytope[0]
    behind = ((0, 1),) * other[0]
    points = [point + behind for point in centered(polytope[1])]
    points.extend([ahead + point for point in centered(other[1])])
    check_how_long(points)
    return dimension, tuple(points)


def stacked_on(polytope, facet):
    """The polytope with one point more, from which this facet alone is seen."""
    facets = checked_facets(polytope)
    check_facet(polytope, facets, facet)
    dimension, points = polytope
    check_how_many(dimension, len(points) + 1)
    center = mean_of([points[index] for index in facet])
    middle = mean_of(points)
    others = [facet_function(polytope, other) for other in facets if other != facet]
    more = points + (point_beyond(center, middle, least_power(others, center, middle)),)
    check_how_long(more)
    return dimension, more


def check_how_many(dimension, many):
    if many > dimension + MOST_POINTS_BEYOND:
        raise TooMany(many)


def check_how_long(points):
    longest = max([
        figures_of(number) for point in points for ratio in point for number in ratio
    ])
    if longest > MOST_FIGURES:
        raise TooLong(longest)


def figures_of(number):
    return len(shown_whole(abs(number)))


def centered(points):
    """The points, moved such that their middle is the point of noughts."""
    middle = mean_of(points)
    return [tuple([difference_of(one, two) for one, two in zip(point, middle)]) for point in points]


def difference_of(ratio, other):
    return lowest(ratio[0] * other[1] - other[0] * ratio[1], ratio[1] * other[1])


def least_power(functions, center, middle):
    """The least power of 2 that brings the point beyond the center below all other facets.

    Where a function, which is above 0 at both, has N at the center and F at the middle, it has
    N + (N - F) / power there: above 0 exactly if (power + 1) * N is above F.
    """
    # The heights come with the factors of these two points, which must be alike.
    of_center = homogeneous(center)[0]
    of_middle = homogeneous(middle)[0]
    power = 1
    for function in functions:
        near = height_at(function, center) * of_middle
        far = height_at(function, middle) * of_center
        while (power + 1) * near <= far:
            power *= 2
    return power


def point_beyond(center, middle, power):
    """The center and, on the side away from the middle, its way from there over the power."""
    return tuple([
        lowest((power + 1) * one[0] * two[1] - two[0] * one[1], power * one[1] * two[1])
        for one, two in zip(center, middle)
    ])
