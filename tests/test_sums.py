"""Promise [31]: free sums and polytopes stacked on a facet; [4], [5] and [6] for these functions."""

import random
import unittest
from fractions import Fraction

from facenumbers.errors import InvalidFace, InvalidPolytope, TooLong, TooMany
from facenumbers.polytopes import facets_of, inequality_of, is_polytope
from facenumbers.rows import face_row, g_row, h_row
from facenumbers.sums import figures_of, free_sum, stacked_on
from tests.examples import (
    CROSS, OCTA, SQUARE, TOPS, bipyramid, cross_polytope, cyclic, is_plain, long_polytope, pointed, random_told_ratio,
    ratio, shuffled, simplex, some_polytopes, stacked, stretched, worths,
)
from tests.test_faces import NO_POLYTOPES, NO_SETS_OF_OCTA, raised

FLAT = pointed(2, [[0, 0], [3, 0], [0, 3]])
MOST = 10 ** 40 - 1


def figures(numbers):
    """How many figures the longest numerator or denominator of Fractions has."""
    return max(len(str(abs(part))) for number in numbers for part in (number.numerator, number.denominator))


def middle_of(value):
    return [sum(numbers) / len(value[1]) for numbers in zip(*worths(value))]


def free_sum_by_definition(one, two):
    first = [[left - right for left, right in zip(point, middle_of(one))] + [Fraction(0)] * two[0]
             for point in worths(one)]
    second = [[Fraction(0)] * one[0] + [left - right for left, right in zip(point, middle_of(two))]
              for point in worths(two)]
    return first + second


def stacked_by_definition(value, facet):
    """The least J and the new point, found by trying each J."""
    points = worths(value)
    center = [sum(numbers) / value[0] for numbers in zip(*[points[index] for index in facet])]
    told = {one: inequality_of(value, one) for one in facets_of(value)}
    power = 0
    while True:
        point = [one + (one - two) / 2 ** power for one, two in zip(center, middle_of(value))]
        seen = []
        for one, (factors, bound) in told.items():
            total = sum(left * right for left, right in zip(factors, point))
            if total > bound:
                seen.append(one)
            elif total == bound:
                seen.append(None)
        if seen == [facet]:
            return power, point
        power += 1


def times_as_polynomials(one, two):
    total = [0] * (len(one) + len(two) - 1)
    for at, left in enumerate(one):
        for place, right in enumerate(two):
            total[at + place] += left * right
    return tuple(total)


def h_of(value):
    return h_row(value[0], face_row(value))


class FreeSums(unittest.TestCase):
    parts = {
        2: [FLAT, SQUARE, simplex(2), cyclic(2, 5), cyclic(2, 6), shuffled(cyclic(2, 5), 3)],
        3: [simplex(3), OCTA, bipyramid(3), cyclic(3, 6), stacked(3, 2), stacked(3, 3)],
        4: [simplex(4), TOPS, CROSS, cyclic(4, 7)],
        5: [simplex(5), cyclic(5, 8), bipyramid(5)],
    }

    def pairs(self):
        for left in self.parts:
            for right in self.parts:
                if left + right <= 7:
                    for one in self.parts[left]:
                        for two in self.parts[right]:
                            if len(one[1]) + len(two[1]) <= left + right + 4:
                                yield one, two

    def test_by_hand(self):
        value = free_sum(FLAT, FLAT)
        one, two, none, less = (1, 1), (2, 1), (0, 1), (-1, 1)
        self.assertEqual(value[0], 4)
        self.assertEqual(value[1], ((less, less, none, none), (two, less, none, none), (less, two, none, none),
                                    (none, none, less, less), (none, none, two, less), (none, none, less, two)))
        self.assertEqual(face_row(value), (6, 15, 18, 9))
        self.assertEqual(free_sum(other=simplex(2), polytope=SQUARE)[1][4],
                         ((0, 1), (0, 1), (-1, 3), (-1, 3)))
        self.assertEqual(free_sum(SQUARE, SQUARE)[1], tuple(point + (none, none) for point in SQUARE[1])
                         + tuple((none, none) + point for point in SQUARE[1]))

    def test_as_defined(self):
        dimensions = set()
        for one, two in self.pairs():
            dimensions.add((one[0], two[0]))
            value = free_sum(one, two)
            self.assertTrue(is_plain(value))
            self.assertIs(is_polytope(value), True)
            self.assertEqual(value[0], one[0] + two[0])
            self.assertEqual(worths(value), free_sum_by_definition(one, two))
            self.assertTrue(all(number == ratio(Fraction(*number)) for point in value[1] for number in point))
        self.assertLessEqual({(2, 2), (2, 3), (3, 2), (3, 3), (2, 4), (3, 4), (4, 3), (2, 5), (5, 2)}, dimensions)

    def test_the_facets(self):
        for one, two in self.pairs():
            expected = [left + tuple(index + len(one[1]) for index in right)
                        for left in facets_of(one) for right in facets_of(two)]
            self.assertEqual(facets_of(free_sum(one, two)), tuple(sorted(expected)))

    def test_the_h_row(self):
        for one, two in self.pairs():
            self.assertEqual(h_of(free_sum(one, two)), times_as_polynomials(h_of(one), h_of(two)))

    def test_moved_parts(self):
        for one, two in ((FLAT, SQUARE), (OCTA, simplex(3)), (simplex(2), TOPS)):
            moved = stretched(one, 1, Fraction(-7, 3))
            self.assertEqual(free_sum(moved, two), free_sum(one, two))
            self.assertEqual(free_sum(two, moved), free_sum(two, one))

    def test_too_many_dimensions_first(self):
        for one, two, many in ((CROSS, CROSS, 8), (cyclic(6, 10), SQUARE, 8), (cyclic(7, 11), OCTA, 10),
                               (simplex(7), simplex(7), 14), (simplex(6), simplex(2), 8), (simplex(2), simplex(7), 9)):
            for left, right in ((one, two), (two, one)):
                error = raised(TooMany, free_sum, left, right)
                self.assertEqual(vars(error), {"given": many})
                self.assertEqual(raised(TooMany, free_sum, other=right, polytope=left).given, many)

    def test_too_many_points(self):
        for one, two, many in ((OCTA, OCTA, 12), (SQUARE, cyclic(2, 5), 9), (cyclic(2, 6), simplex(2), 9),
                               (OCTA, CROSS, 14), (cyclic(3, 7), simplex(3), 11), (cyclic(2, 6), cyclic(5, 9), 15)):
            self.assertEqual(vars(raised(TooMany, free_sum, one, two)), {"given": many})
            self.assertEqual(vars(raised(TooMany, free_sum, two, one)), {"given": many})

    def test_as_many_as_there_may_be(self):
        for one, two in ((SQUARE, SQUARE), (cyclic(2, 5), FLAT), (OCTA, simplex(3)), (cyclic(3, 6), simplex(4))):
            self.assertEqual(len(free_sum(one, two)[1]), len(one[1]) + len(two[1]))
        self.assertEqual(free_sum(simplex(5), simplex(2))[0], 7)

    def test_too_long_behind_too_many(self):
        long = long_polytope(40, 2, 3)
        solid = long_polytope(41, 3, 7)
        self.assertEqual(raised(TooMany, free_sum, solid, cyclic(5, 9)).given, 8)
        self.assertEqual(raised(TooMany, free_sum, solid, OCTA).given, 13)
        self.assertGreater(raised(TooLong, free_sum, long, SQUARE).given, 40)

    def test_too_long(self):
        source = random.Random(42)
        said = set()
        for _ in range(60):
            many = source.choice((12, 13, 14, 39, 40))
            width = 10 ** many
            points = [[Fraction(source.randint(-width, width), source.choice((1, 1, 2, 3))) for _ in range(2)]
                      for _ in range(3)]
            if source.random() < 0.5:
                points = [[Fraction(number, source.choice((7, 10 ** 12 + 39))) for number in point] for point in points]
            value = pointed(2, points)
            if is_polytope(value):
                for one, two in ((value, SQUARE), (SQUARE, value), (value, value)):
                    longest = figures([number for point in free_sum_by_definition(one, two) for number in point])
                    said.add(longest > 40)
                    if longest > 40:
                        error = raised(TooLong, free_sum, one, two)
                        self.assertEqual(vars(error), {"given": longest})
                    else:
                        self.assertEqual(worths(free_sum(one, two)), free_sum_by_definition(one, two))
        self.assertEqual(said, {True, False})

    def test_the_bound_of_40_figures(self):
        # The middle's first number is a third of the last point's: so 2 / 3 of it and - 1 / 3 of it stand there.
        for top, longest in ((MOST, None), (5 * 10 ** 39 + 2, 41), (MOST - 1, 41), (10 ** 38, None),
                             (5 * 10 ** 39 - 1, None)):
            value = pointed(2, [[0, 0], [0, 1], [top, 0]])
            if longest is None:
                self.assertEqual(free_sum(value, SQUARE)[1][2][0], ratio(Fraction(2 * top, 3)))
            else:
                self.assertEqual(raised(TooLong, free_sum, value, SQUARE).given, longest)
                self.assertEqual(raised(TooLong, free_sum, SQUARE, value).given, longest)

    def test_denominators_count_too(self):
        value = pointed(2, [[0, 0], [0, 1], [Fraction(1, MOST - 1), 0]])
        self.assertEqual(figures([Fraction(1, 3 * (MOST - 1))]), 41)
        self.assertEqual(raised(TooLong, free_sum, value, SQUARE).given, 41)

    def test_hundreds_of_figures(self):
        for dimension, points in ((2, 4), (3, 5)):
            value = long_polytope(43, dimension, points)
            longest = figures([number for point in free_sum_by_definition(value, simplex(2)) for number in point])
            self.assertGreater(longest, 150)
            self.assertEqual(raised(TooLong, free_sum, value, simplex(2)).given, longest)


class Stacked(unittest.TestCase):
    def many_polytopes(self):
        return {name: value for name, value in some_polytopes().items() if len(value[1]) < value[0] + 4}

    def test_by_hand(self):
        self.assertEqual(stacked_on(SQUARE, (0, 1)), (2, SQUARE[1] + (((1, 1), (1, 1)),)))
        self.assertEqual(face_row(stacked_on(OCTA, (0, 2, 4))), (7, 15, 10))
        self.assertEqual(stacked_on(facet=(1, 2), polytope=FLAT)[1][3], ((2, 1), (2, 1)))
        self.assertEqual(stacked_on(FLAT, (0, 1))[1][3], ((2, 1), (-1, 1)))
        third = (2, 3)
        self.assertEqual(stacked_on(OCTA, (0, 2, 4))[1][6], (third, third, third))

    def test_as_defined(self):
        powers = set()
        for name, value in self.many_polytopes().items():
            facets = facets_of(value)
            for facet in facets[::len(facets) // 9 + 1]:
                power, point = stacked_by_definition(value, facet)
                longest = figures([number for one in worths(value) + [point] for number in one])
                if longest > 40:
                    self.assertEqual(raised(TooLong, stacked_on, value, facet).given, longest)
                else:
                    powers.add(power)
                    answer = stacked_on(value, facet)
                    self.assertTrue(is_plain(answer))
                    self.assertEqual(answer, (value[0], value[1] + (tuple(map(ratio, point)),)), (name, facet))
        self.assertLessEqual({0, 1, 2, 3}, powers)
        self.assertGreater(max(powers), 6)

    def test_the_facets_and_the_g_row(self):
        for name, value in self.many_polytopes().items():
            facets = facets_of(value)
            for facet in facets[::len(facets) // 4 + 1]:
                answer = stacked_on(value, facet)
                self.assertIs(is_polytope(answer), True)
                new = len(value[1])
                expected = [other for other in facets if other != facet]
                expected += [tuple(one for one in facet if one != index) + (new,) for index in facet]
                self.assertEqual(facets_of(answer), tuple(sorted(expected)), name)
                g = g_row(value[0], face_row(value))
                self.assertEqual(g_row(value[0], face_row(answer)), (1, g[1] + 1) + g[2:])

    def test_each_facet_of_some(self):
        for value in (SQUARE, FLAT, OCTA, TOPS, stacked(3, 2), shuffled(cyclic(3, 6), 1), cyclic(4, 6)):
            for facet in facets_of(value):
                point = stacked_by_definition(value, facet)[1]
                self.assertEqual(stacked_on(value, facet)[1], value[1] + (tuple(map(ratio, point)),))

    def test_again_and_again(self):
        for dimension in range(2, 8):
            value = simplex(dimension)
            for _ in range(3):
                value = stacked_on(value, facets_of(value)[-1])
            row = face_row(value)
            self.assertEqual(g_row(dimension, row)[:2], (1, 3))
            self.assertEqual(set(g_row(dimension, row)[2:]), {0} if dimension > 3 else set())

    def test_flat_roofs(self):
        # The less the roof rises the nearer to the side the point must be.
        for rise in (1, 2, 3, 10, 1000, 10 ** 9):
            value = pointed(2, [[-1, 0], [1, 0], [0, Fraction(1, rise)], [0, -1]])
            for facet in facets_of(value):
                power, point = stacked_by_definition(value, facet)
                self.assertEqual(stacked_on(value, facet)[1][4], tuple(map(ratio, point)))

    def test_where_the_others_are_kept_but_not_strictly(self):
        # The first try lies in the line of another side, so the next power is taken.
        found = set()
        for top in range(1, 40):
            value = pointed(2, [[0, 0], [6, 0], [6 + top, 6], [0, 6]])
            for facet in facets_of(value):
                power, point = stacked_by_definition(value, facet)
                found.add(power)
                self.assertEqual(stacked_on(value, facet)[1][4], tuple(map(ratio, point)))
        self.assertGreater(len(found), 1)

    def test_too_many(self):
        for dimension in range(2, 8):
            value = cyclic(dimension, dimension + 4)
            for facet in facets_of(value)[:2]:
                error = raised(TooMany, stacked_on, value, facet)
                self.assertEqual(vars(error), {"given": dimension + 5})
                self.assertEqual(raised(TooMany, stacked_on, facet=facet, polytope=value).given, dimension + 5)
        value = long_polytope(44, 2, 6)
        self.assertEqual(raised(TooMany, stacked_on, value, facets_of(value)[0]).given, 7)

    def test_too_long(self):
        source = random.Random(45)
        said = set()
        for many in (37, 38, 39, 40):
            for _ in range(12):
                width = 10 ** many - 1
                value = pointed(2, [[source.randint(-width, width) for _ in range(2)] for _ in range(3)])
                if is_polytope(value):
                    for facet in facets_of(value):
                        point = stacked_by_definition(value, facet)[1]
                        longest = figures([number for one in worths(value) + [point] for number in one])
                        said.add(longest)
                        if longest > 40:
                            self.assertEqual(vars(raised(TooLong, stacked_on, value, facet)), {"given": longest})
                        else:
                            self.assertEqual(stacked_on(value, facet)[1][3], tuple(map(ratio, point)))
        self.assertLessEqual({38, 39, 40, 41}, said)

    def test_the_bound_of_40_figures(self):
        for top in (MOST, 5 * 10 ** 39 - 1, 10 ** 38):
            value = pointed(2, [[0, 0], [top, 0], [0, 3]])
            self.assertEqual(stacked_on(value, (0, 1))[1][3], (ratio(Fraction(2 * top, 3)), (-1, 1)))
        for top in (5 * 10 ** 39 + 2, MOST - 1):
            value = pointed(2, [[0, 0], [top, 0], [0, 3]])
            self.assertEqual(raised(TooLong, stacked_on, value, (0, 1)).given, 41)

    def test_hundreds_and_thousands_of_figures(self):
        source = random.Random(46)
        for dimension in (2, 3, 5, 7):
            value = (dimension, tuple(
                tuple(random_told_ratio(source) for _ in range(dimension)) for _ in range(dimension + 1)
            ))
            facet = facets_of(value)[0]
            point = stacked_by_definition(value, facet)[1]
            self.assertEqual(raised(TooLong, stacked_on, value, facet).given, figures(point))
        # A roof that hardly rises: the power alone has thousands of figures.
        value = pointed(2, [[-MOST, Fraction(1, MOST)], [MOST, Fraction(1, MOST - 1)], [0, 1], [0, Fraction(-1, MOST)]])
        for facet in facets_of(value):
            point = stacked_by_definition(value, facet)[1]
            self.assertEqual(raised(TooLong, stacked_on, value, facet).given, figures(point))

    def test_how_many_figures(self):
        for many in (1, 2, 39, 40, 41, 59, 60, 61, 119, 120, 121, 300, 4299, 4301, 9000):
            for number in (10 ** (many - 1), 10 ** many - 1, 5 * 10 ** (many - 1) + 3 * (many > 1)):
                self.assertEqual(figures_of(number), many)
                self.assertEqual(figures_of(-number), many)
        self.assertEqual(figures_of(0), 1)

    def test_equal_calls(self):
        self.assertEqual(stacked_on(OCTA, (0, 2, 4)), stacked_on((3, tuple(list(OCTA[1]))), (0, 2, 4)))
        self.assertEqual(free_sum(FLAT, SQUARE), free_sum((2, tuple(list(FLAT[1]))), SQUARE))


class WrongArguments(unittest.TestCase):
    def test_no_polytope(self):
        for value in NO_POLYTOPES:
            for call, rest in ((free_sum, SQUARE), (free_sum, None), (stacked_on, (0, 1)), (stacked_on, None)):
                error = raised(InvalidPolytope, call, value, rest)
                self.assertIs(error.given, value)
                self.assertEqual(list(vars(error)), ["given"])

    def test_the_other_is_none(self):
        for value in NO_POLYTOPES:
            for one in (SQUARE, cyclic(7, 11)):
                self.assertIs(raised(InvalidPolytope, free_sum, one, value).given, value)
                self.assertIs(raised(InvalidPolytope, free_sum, other=value, polytope=one).given, value)
        self.assertEqual(raised(InvalidPolytope, free_sum, 5, 6).given, 5)
        self.assertEqual(raised(InvalidPolytope, free_sum, other=5, polytope=6).given, 6)
        self.assertEqual(raised(InvalidPolytope, stacked_on, facet=(0, 1), polytope=6).given, 6)

    def test_no_facet(self):
        for facet in NO_SETS_OF_OCTA + ((), (0,), (0, 2), (0, 1, 2), (0, 2, 4, 5), (0, 1, 2, 3, 4, 5), (False, 2, 4),
                                        (True, 3, 5), [0, 2, 4], (4, 2, 0), 5):
            error = raised(InvalidFace, stacked_on, OCTA, facet)
            self.assertIs(error.given, facet)
            self.assertEqual(list(vars(error)), ["given"])
            self.assertIs(raised(InvalidFace, stacked_on, facet=facet, polytope=OCTA).given, facet)

    def test_no_facet_ahead_of_too_many(self):
        for value in (cyclic(2, 6), cross_polytope(4), cyclic(7, 11)):
            for facet in ((0,), None, (0, 1, 2, 3, 4, 5, 6, 7, 8)):
                self.assertIs(raised(InvalidFace, stacked_on, value, facet).given, facet)


if __name__ == "__main__":
    unittest.main()
