"""Rows of face numbers, their h-rows and g-rows, and the way back."""

from math import comb

from facenumbers.checks import check_dimension, check_row, checked_facets
from facenumbers.errors import InvalidSequence
from facenumbers.hulls import faces_with
from facenumbers.values import is_tuple_of_length, is_whole_between

SEQUENCE_LIMIT = 1000


def face_row(polytope):
    """How many faces of 1, 2, .., D points the polytope has."""
    facets = checked_facets(polytope)
    return tuple([len(faces_with(facets, many)) for many in range(1, polytope[0] + 1)])


def h_row(dimension, row):
    """The h-row of any row for the dimension."""
    check_dimension(dimension)
    check_row(dimension, row)
    return h_numbers(dimension, row)


def h_numbers(dimension, row):
    counts = (1,) + row
    return tuple([h_number(dimension, counts, degree) for degree in range(dimension + 1)])


def h_number(dimension, counts, degree):
    total = 0
    for at in range(degree + 1):
        term = comb(dimension - at, degree - at) * counts[at]
        total += -term if (degree - at) % 2 == 1 else term
    return total


def g_row(dimension, row):
    """The g-row of any row for the dimension: how the first half of its h-row grows."""
    check_dimension(dimension)
    check_row(dimension, row)
    h = h_numbers(dimension, row)
    return (1,) + tuple([h[degree] - h[degree - 1] for degree in range(1, dimension // 2 + 1)])


def row_of(dimension, sequence):
    """The row with a symmetric h-row and the sequence as its g-row."""
    check_dimension(dimension)
    check_g_row(dimension, sequence)
    h = symmetric_h(dimension, sequence)
    return tuple([face_number(dimension, h, many) for many in range(1, dimension + 1)])


def check_g_row(dimension, sequence):
    if not is_tuple_of_length(sequence, dimension // 2 + 1):
        raise InvalidSequence(None)
    for index, number in enumerate(sequence):
        wrong = not is_whole_between(number, -SEQUENCE_LIMIT, SEQUENCE_LIMIT)
        if wrong or (index == 0 and number != 1):
            raise InvalidSequence(index)


def symmetric_h(dimension, sequence):
    half = [sum(sequence[:degree + 1]) for degree in range(len(sequence))]
    return [half[min(degree, dimension - degree)] for degree in range(dimension + 1)]


def face_number(dimension, h, many):
    """How many faces of so many points an h-row tells."""
    return sum([h[at] * comb(dimension - at, many - at) for at in range(many + 1)])
