"""Macaulay's numbers: expansions, what is most next, and M-sequences."""

from math import comb

from facenumbers.checks import check_number, check_sequence

NUMBER_LIMIT = 10 ** 6
GREATEST_DEGREE = 8


def expansion(number, degree):
    """The tops A_K, A_(K - 1), .. of the number's expansion in the degree."""
    check_number(number, 0, NUMBER_LIMIT)
    check_number(degree, 1, GREATEST_DEGREE)
    return tuple(tops_of(number, degree))


def most_next(number, degree):
    """The most that can stand in an M-sequence behind the number, which is of the degree."""
    check_number(number, 0, NUMBER_LIMIT)
    check_number(degree, 1, GREATEST_DEGREE)
    return most_behind(number, degree)


def first_fault(sequence):
    """The least index at which the sequence is no M-sequence; None for an M-sequence."""
    check_sequence(sequence)
    if sequence[0] != 1:
        return 0
    for index in range(1, len(sequence)):
        if sequence[index] < 0 or is_too_many(sequence, index):
            return index
    return None


def is_m_sequence(sequence):
    """Whether the sequence is an M-sequence."""
    return first_fault(sequence) is None


def is_too_many(sequence, index):
    """Whether the number there is above what is most next to the one ahead, which is from 0 on."""
    return index >= 2 and sequence[index] > most_behind(sequence[index - 1], index - 1)


def most_behind(number, degree):
    tops = tops_of(number, degree)
    return sum([comb(top + 1, degree + 1 - at) for at, top in enumerate(tops)])


def tops_of(number, degree):
    tops = []
    while number > 0:
        top = greatest_top(number, degree)
        tops.append(top)
        number -= comb(top, degree)
        degree -= 1
    return tops


def greatest_top(number, degree):
    """The greatest top whose C(top, degree) is up to the number, which is above 0."""
    low = degree
    beyond = number + degree
    # C(number + degree, degree) is above the number, C(degree, degree) is not.
    while beyond - low > 1:
        middle = (low + beyond) // 2
        if comb(middle, degree) <= number:
            low = middle
        else:
            beyond = middle
    return low
