"""Polytopes with wanted face numbers, as one point sees a part of a cyclic polytope."""

from itertools import combinations

from facenumbers.checks import check_dimension, check_points
from facenumbers.errors import NoPolytope
from facenumbers.facerows import why_none
from facenumbers.monomials import compressed, monomials
from facenumbers.ratios import common_under, lowest, multiplied
from facenumbers.rows import g_row

OTHERS = (-3, -1, 0, 1, 2, 4, 8, 16, 40)


def line_of(dimension, points):
    """The line: one whole number for each point."""
    check_dimension(dimension)
    check_points(dimension, points)
    ahead = ahead_of(dimension)
    return ahead + OTHERS[:points - len(ahead)]


def made(dimension, row):
    """A polytope with this face row."""
    bar = why_none(dimension, row)
    if bar is not None:
        raise NoPolytope(bar)
    line = line_of(dimension, row[0])
    weights = weights_of(dimension, line, g_row(dimension, row))
    return dimension, seen_points(dimension, line, weights)


def ahead_of(dimension):
    """What stands ahead of the others in a line, and is in the lot of each placing."""
    return (-4,) if dimension % 2 == 0 else (-5, -4)


def placings_of(dimension, more):
    """All placings, where the polytope has so many points more than a simplex."""
    return [
        tuple([variable - 1 for variable in monomial])
        for monomial in monomials(more + 1, dimension // 2)
    ]


def lot_of(dimension, line, placing):
    ahead = ahead_of(dimension)
    lot = list(ahead)
    for pair, moved in enumerate(placing):
        place = len(ahead) + 2 * pair + moved
        lot.extend(line[place:place + 2])
    return lot


def monomial_of(placing):
    return tuple([moved for moved in placing if moved != 0])


def away_from(lot, number):
    """The product of what the number is above each number of the lot."""
    total = 1
    for other in lot:
        total *= number - other
    return total


def weights_of(dimension, line, sequence):
    """Pairs of a number of the line and its weight, a ratio."""
    half = dimension // 2
    ahead = ahead_of(dimension)
    found = [(line[0], first_weight(dimension, line))]
    for degree in range(2, half + 1):
        number = line[len(ahead) + 2 * (half - degree)]
        found.append((number, weight_at(dimension, line, sequence, degree, number)))
    return found


def first_weight(dimension, line):
    if dimension % 2 == 0:
        return 1, 1
    lots = lots_behind_first(line, dimension // 2 + 1)
    if len(lots) == 0:
        return 1, 1
    return lowest(2, min([away_from(lot, line[0]) for lot in lots]))


def lots_behind_first(line, many):
    """All lots of so many pairs of neighbours, none with the line's first number."""
    starts = list(range(1, len(line) - 1))
    found = []
    for lot in combinations(starts, many):
        if all([lot[at] - lot[at - 1] >= 2 for at in range(1, many)]):
            found.append([number for start in lot for number in line[start:start + 2]])
    return found


def weight_at(dimension, line, sequence, degree, number):
    """The weight that parts the placings of the degree that are taken from the others."""
    ideal = compressed(sequence)
    taken = []
    left = []
    for placing in placings_of(dimension, sequence[1]):
        monomial = monomial_of(placing)
        if len(monomial) == degree:
            away = away_from(lot_of(dimension, line, placing), number)
            if monomial in ideal:
                taken.append(away)
            else:
                left.append(away)
    return lowest(2, max(taken, default=0) + min(left)) if left else (0, 1)


def seen_points(dimension, line, weights):
    """The points of the polytope, with one factor for all weights that makes them whole."""
    ratios = [weight for _, weight in weights]
    factor = common_under(ratios)
    parts = multiplied(ratios, factor)
    total = sum(parts)
    lowest_lot = lot_of(dimension, line, (0,) * (dimension // 2))
    sums = [0] * dimension
    for (number, _), part in zip(weights, parts):
        for at, power in enumerate(powers(number, dimension)):
            sums[at] += part * power
    points = []
    for number in line:
        under = total * away_from(lowest_lot, number) + factor
        own = powers(number, dimension)
        points.append(tuple([lowest(total * own[at] - sums[at], under) for at in range(dimension)]))
    return tuple(points)


def powers(number, many):
    """The number to the powers from 1 on, so many of them."""
    found = [number]
    while len(found) < many:
        found.append(found[-1] * number)
    return found
