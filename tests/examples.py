"""Polytopes for the tests, and what DOC.md defines, worked out by its words alone."""

import random
from fractions import Fraction
from itertools import combinations
from math import gcd

JUNK = (
    None, True, False, 0, 2, -1, 10 ** 50, "", "2", "text", b"", b"\x02", (), [], {}, set(), frozenset(),
    (2,), (2, ()), (2, (), ()), [2, ()], {2: ()}, {2, 3}, range(3), (None, None), ("2", "3"),
    object(), len, ValueError, ValueError("2"), complex(2, 1), (((((((), ),), ),), ),), iter(()),
)


def ratio(number):
    number = Fraction(number)
    return (number.numerator, number.denominator)


def pointed(dimension, points):
    """A polytope's value from points of ints, Fractions or texts as "1/2"."""
    return (dimension, tuple(tuple(ratio(number) for number in point) for point in points))


def simplex(dimension):
    return pointed(dimension, [[0] * dimension] + units(dimension))


def units(dimension, worth=1):
    return [[worth if at == place else 0 for at in range(dimension)] for place in range(dimension)]


def cross_polytope(dimension):
    both = zip(units(dimension), units(dimension, -1))
    return pointed(dimension, [point for pair in both for point in pair])


def cyclic(dimension, points):
    return pointed(dimension, [[t ** power for power in range(1, dimension + 1)] for t in range(points)])


def bipyramid(dimension, low=-1, high=1):
    """A simplex of one dimension less, a point above and one below a point within it."""
    base = [[0] * (dimension - 1)] + units(dimension - 1)
    within = [Fraction(1, dimension)] * (dimension - 1)
    return pointed(dimension, [point + [0] for point in base] + [within + [low], within + [high]])


def stacked(dimension, more):
    """A simplex with flat simplices put onto facets, up to four."""
    corners = [[0] * dimension] + units(dimension)
    facets = [corners[:place] + corners[place + 1:] for place in range(dimension + 1)]
    middle = [Fraction(1, dimension + 1)] * dimension
    added = []
    for facet in facets[:more]:
        mean = [sum(numbers, Fraction(0)) / dimension for numbers in zip(*facet)]
        added.append([one + (one - two) / 100 for one, two in zip(mean, middle)])
    return pointed(dimension, corners + added)


SQUARE = pointed(2, [[1, 0], [0, 1], [-1, 0], [0, -1]])
OCTA = cross_polytope(3)
CROSS = cross_polytope(4)
TOPS = (4, pointed(4, [[0] * 4] + units(4)[:3] + [["1/4", "1/4", "1/4", 1], ["1/4", "1/4", "1/4", -1]])[1])


def some_polytopes():
    """Named polytopes of all dimensions and numbers of points."""
    found = {"square": SQUARE, "octa": OCTA, "cross": CROSS, "tops": TOPS}
    for dimension in range(2, 8):
        found[f"simplex {dimension}"] = simplex(dimension)
        found[f"bipyramid {dimension}"] = bipyramid(dimension)
        for more in range(1, 5):
            found[f"cyclic {dimension} {more}"] = cyclic(dimension, dimension + more)
        for more in range(1, 4):
            found[f"stacked {dimension} {more}"] = stacked(dimension, more)
    return found


def shuffled(value, seed):
    """The polytope with its points in another order."""
    points = list(value[1])
    random.Random(seed).shuffle(points)
    return (value[0], tuple(points))


def stretched(value, factor, way):
    """The polytope, each point taken so many times and moved by the same number in each coordinate."""
    return pointed(value[0], [[number * factor + way for number in point] for point in worths(value)])


def sheared(value, factor):
    """The polytope, to whose first coordinate the last one is added so many times."""
    return pointed(value[0], [[point[0] + factor * point[-1]] + point[1:] for point in worths(value)])


def long_polytope(seed, dimension, points):
    """A polytope whose numbers have 40 figures."""
    source = random.Random(seed)
    while True:
        value = (dimension, tuple(
            tuple(random_told_ratio(source) for _ in range(dimension)) for _ in range(points)
        ))
        if facets_by_definition(value) is not None:
            return value


def sets_lacking_some(many):
    """All sets of so many indexes that lack one of them."""
    return [lot for size in range(many) for lot in combinations(range(many), size)]


def times(told, factor):
    """A tuple of ratios, each taken so many times."""
    return tuple(ratio(Fraction(*number) * factor) for number in told)


def with_number(told, place, number):
    return told[:place] + (number,) + told[place + 1:]


def worths(polytope):
    return [[Fraction(*number) for number in point] for point in polytope[1]]


def rank(rows):
    """The rank of rows of Fractions."""
    rows = [list(row) for row in rows]
    found = 0
    for column in range(len(rows[0]) if rows else 0):
        pivots = [at for at in range(found, len(rows)) if rows[at][column] != 0]
        if pivots:
            rows[found], rows[pivots[0]] = rows[pivots[0]], rows[found]
            for at in range(found + 1, len(rows)):
                factor = rows[at][column] / rows[found][column]
                rows[at] = [one - factor * two for one, two in zip(rows[at], rows[found])]
            found += 1
    return found


def determinant(rows):
    rows = [list(row) for row in rows]
    total = Fraction(1)
    for column in range(len(rows)):
        pivots = [at for at in range(column, len(rows)) if rows[at][column] != 0]
        if not pivots:
            return Fraction(0)
        if pivots[0] != column:
            rows[column], rows[pivots[0]] = rows[pivots[0]], rows[column]
            total = -total
        total *= rows[column][column]
        for at in range(column + 1, len(rows)):
            factor = rows[at][column] / rows[column][column]
            rows[at] = [one - factor * two for one, two in zip(rows[at], rows[column])]
    return total


def facets_by_definition(polytope):
    """The facets by [8] and [9]; None for what is no polytope, though of its form."""
    dimension = polytope[0]
    points = [[Fraction(1)] + point for point in worths(polytope)]
    many = len(points)
    if rank(points) <= dimension:
        return None
    found = []
    for lot in combinations(range(many), dimension):
        rows = [points[index] for index in lot]
        if rank(rows) < dimension:
            continue
        sides = [determinant(rows + [point]) for point in points]
        if min(sides) < 0 < max(sides):
            continue
        if [index for index in range(many) if sides[index] == 0] != list(lot):
            return None
        found.append(lot)
    if {index for lot in found for index in lot} != set(range(many)):
        return None
    return tuple(sorted(found))


def faces_by_definition(facets):
    """All parts of facets, as a set."""
    return {
        lot for facet in facets for many in range(len(facet) + 1) for lot in combinations(facet, many)
    }


def missing_by_definition(facets, points):
    faces = faces_by_definition(facets)
    found = []
    for many in range(points + 1):
        for lot in combinations(range(points), many):
            parts = [lot[:at] + lot[at + 1:] for at in range(many)]
            if lot not in faces and all(part in faces for part in parts):
                found.append(lot)
    return tuple(sorted(found))


def random_told_ratio(source):
    limit = 10 ** 40 - 1
    over, under = source.randint(-limit, limit), source.randint(1, limit)
    common = gcd(over, under)
    return (over // common, under // common)


def random_values(seed, dimension, points, width, many):
    """Values of a polytope's form with small whole numbers: many of them are degenerate."""
    source = random.Random(seed)
    return [
        pointed(dimension, [[source.randint(-width, width) for _ in range(dimension)] for _ in range(points)])
        for _ in range(many)
    ]


def is_plain(value):
    """Whether the value is a tuple of such, or an int other than True and False, or None."""
    if isinstance(value, tuple):
        return type(value) is tuple and all(is_plain(part) for part in value)
    return value is None or type(value) is int
