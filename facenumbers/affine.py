"""Points' coordinates, means and dependences."""

from facenumbers.hulls import equations_of, gale_vectors
from facenumbers.ratios import lowest, sum_of, whole_numbers


def coordinate_of(points, at):
    return [point[at] for point in points]


def coordinates_of(points):
    """For each coordinate whole numbers, what the points have there times one factor."""
    return [whole_numbers(coordinate_of(points, at)) for at in range(len(points[0]))]


def mean_of(points):
    return tuple([mean_of_ratios(coordinate_of(points, at)) for at in range(len(points[0]))])


def mean_of_ratios(ratios):
    over, under = sum_of(ratios)
    return lowest(over, under * len(ratios))


def dependence_vectors(dimension, points):
    """For each point its whole numbers in a basis of the dependences."""
    # The hull's vectors are those of the points taken with factors: the signs alone mattered there.
    factors = equations_of(points)[0]
    vectors = gale_vectors(dimension, points)
    return [[factor * number for number in vector] for factor, vector in zip(factors, vectors)]


def is_dependence(points, numbers):
    """Whether whole numbers, one for each point, are a dependence or noughts alone."""
    if sum(numbers) != 0:
        return False
    return not any([
        sum([one * two for one, two in zip(numbers, coordinate)]) for coordinate in coordinates_of(points)
    ])
