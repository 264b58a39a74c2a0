"""Ratios in lowest terms, and lists of them as whole numbers with one factor."""

from math import gcd, lcm


def lowest(over, under):
    """The ratio of two whole numbers, the second one not 0."""
    common = gcd(over, under)
    if under < 0:
        common = -common
    return over // common, under // common


def common_under(ratios):
    """The least number from 1 on that makes each of the ratios whole."""
    factor = 1
    for _, under in ratios:
        factor = lcm(factor, under)
    return factor


def multiplied(ratios, factor):
    """The ratios as whole numbers, taken so many times as makes each of them whole."""
    return [over * (factor // under) for over, under in ratios]


def whole_numbers(ratios):
    """The ratios as whole numbers, taken with the least factor from 1 on that makes them whole."""
    return multiplied(ratios, common_under(ratios))


def sum_of(ratios):
    factor = common_under(ratios)
    return lowest(sum(multiplied(ratios, factor)), factor)
