"""What counts as a number, a ratio, a point, a set, a monomial or a row, whatever the value is."""

from math import gcd

LEAST_DIMENSION = 2
GREATEST_DIMENSION = 7
MOST_POINTS_BEYOND = 4
MOST_FIGURES = 40
RATIO_LIMIT = 10 ** 40 - 1
ROW_LIMIT = 10 ** 9
MOST_NUMBERS = 8
SEQUENCE_LIMIT = 10 ** 6


def is_whole(value):
    # Python takes True and False for ints; here they are no numbers.
    return isinstance(value, int) and not isinstance(value, bool)


def is_whole_between(value, low, high):
    return is_whole(value) and low <= value <= high


def is_tuple_of_length(value, many):
    return isinstance(value, tuple) and len(value) == many


def is_dimension(value):
    return is_whole_between(value, LEAST_DIMENSION, GREATEST_DIMENSION)


def is_ratio(value):
    if not is_tuple_of_length(value, 2):
        return False
    over, under = value
    return is_whole(over) and is_whole(under) and under >= 1 and gcd(over, under) == 1


def is_tuple_of_ratios(value, many):
    return is_tuple_of_length(value, many) and all([is_ratio(part) for part in value])


def is_told_ratio(value):
    return is_ratio(value) and abs(value[0]) <= RATIO_LIMIT and value[1] <= RATIO_LIMIT


def is_point(value, dimension):
    return is_tuple_of_length(value, dimension) and all([is_told_ratio(ratio) for ratio in value])


def has_polytope_form(value):
    """Whether the value is a dimension and so many points of it, wherever these lie."""
    if not is_tuple_of_length(value, 2):
        return False
    dimension, points = value
    return (
        is_dimension(dimension)
        and isinstance(points, tuple)
        and dimension + 1 <= len(points) <= dimension + MOST_POINTS_BEYOND
        and all([is_point(point, dimension) for point in points])
    )


def is_index_set(value, many):
    """Whether the value is an ascending tuple of indexes of so many points."""
    if not isinstance(value, tuple):
        return False
    least = 0
    for index in value:
        if not is_whole_between(index, least, many - 1):
            return False
        least = index + 1
    return True


def is_pair_of_wholes(value):
    return is_tuple_of_length(value, 2) and is_whole(value[0]) and is_whole(value[1])


def is_monomial(value, variables):
    """Whether the value is a monomial of any degree in so many variables."""
    if not isinstance(value, tuple):
        return False
    least = 1
    for variable in value:
        if not is_whole_between(variable, least, variables):
            return False
        least = variable
    return True


def is_wanted_row(value, dimension):
    """Whether the value is a row with so many points as a polytope of the dimension may have."""
    return is_row(value, dimension) and dimension + 1 <= value[0] <= dimension + MOST_POINTS_BEYOND


def is_lacking_set(value, many):
    """Whether the value is a set of indexes that lacks some point."""
    return is_index_set(value, many) and len(value) < many


def is_row(value, dimension):
    return is_tuple_of_length(value, dimension) and all(
        [is_whole_between(number, -ROW_LIMIT, ROW_LIMIT) for number in value]
    )


def has_sequence_length(value):
    return isinstance(value, tuple) and 1 <= len(value) <= MOST_NUMBERS


def is_sequence(value):
    """Whether the value is a tuple of so many and so great whole numbers as a sequence may have."""
    return has_sequence_length(value) and all(
        [is_whole_between(number, -SEQUENCE_LIMIT, SEQUENCE_LIMIT) for number in value]
    )
