"""Promise [26]: polytopes with D + 2 points; [4], [5] and [6] for these functions."""

import unittest
from fractions import Fraction

from facenumbers.errors import InvalidPolytope
from facenumbers.facerows import rows_with
from facenumbers.making import made
from facenumbers.polytopes import facets_of, is_polytope, missing_faces
from facenumbers.radon import dependence_of, radon_parts
from facenumbers.rows import face_row, g_row
from tests.examples import (
    OCTA, SQUARE, TOPS, bipyramid, cyclic, is_plain, long_polytope, pointed, random_values, ratio, rank, shuffled,
    simplex, some_polytopes, stacked, stretched, units, worths,
)
from tests.test_faces import NO_POLYTOPES, raised


def crossing(one, two):
    """Two simplices of these dimensions that meet in one point within both: D + 2 points."""
    first = units(one) + [[-1] * one]
    second = units(two) + [[-2] * two]
    return pointed(one + two, [point + [0] * two for point in first] + [[0] * one + point for point in second])


def many_polytopes():
    found = [value for value in some_polytopes().values() if len(value[1]) == value[0] + 2]
    found.extend(crossing(one, two) for one in range(1, 7) for two in range(1, 7) if one + two <= 7)
    found.extend(made(dimension, row) for dimension in range(2, 8) for row in rows_with(dimension, dimension + 2))
    found.extend(stretched(value, Fraction(-5, 3), Fraction(1, 7)) for value in found[:12])
    return found


def parts_by_definition(value):
    """The lots by the sign of the one dependence, told by minors in Fractions."""
    points = [[Fraction(1)] + point for point in worths(value)]
    numbers = dependence_by_elimination(points)
    above = tuple(index for index, number in enumerate(numbers) if number > 0)
    below = tuple(index for index, number in enumerate(numbers) if number < 0)
    first, second = sorted((above, below), key=lambda lot: (len(lot), lot))
    return (first, second), tuple(ratio(number / numbers[first[0]]) for number in numbers)


def dependence_by_elimination(points):
    """How often each point is taken, the last one once."""
    rows = [list(column) for column in zip(*points)]
    for at in range(len(rows)):
        chosen = next(place for place in range(at, len(rows)) if rows[place][at] != 0)
        rows[at], rows[chosen] = rows[chosen], rows[at]
        rows[at] = [number / rows[at][at] for number in rows[at]]
        for place, row in enumerate(rows):
            if place != at:
                rows[place] = [one - row[at] * two for one, two in zip(row, rows[at])]
    return [-row[-1] for row in rows] + [Fraction(1)]


class Parts(unittest.TestCase):
    def test_by_hand(self):
        self.assertEqual(radon_parts(TOPS), ((4, 5), (0, 1, 2, 3)))
        self.assertEqual(radon_parts(polytope=SQUARE), ((0, 2), (1, 3)))
        self.assertEqual(radon_parts((4, TOPS[1][::-1])), ((0, 1), (2, 3, 4, 5)))
        self.assertEqual(radon_parts(pointed(2, [[0, 0], [1, 1], [1, 0], [0, 1]])), ((0, 1), (2, 3)))
        self.assertEqual(radon_parts(cyclic(4, 6)), ((0, 2, 4), (1, 3, 5)))
        self.assertEqual(radon_parts(crossing(3, 3)), ((0, 1, 2, 3), (4, 5, 6, 7)))
        self.assertEqual(radon_parts(crossing(4, 1)), ((5, 6), (0, 1, 2, 3, 4)))

    def test_as_defined(self):
        sizes = set()
        for value in many_polytopes():
            for seed in range(3):
                other = shuffled(value, seed) if seed else value
                answer = radon_parts(other)
                self.assertTrue(is_plain(answer))
                parts, dependence = parts_by_definition(other)
                self.assertEqual(answer, parts)
                self.assertEqual(dependence_of(other), dependence)
                sizes.add((len(answer[0]), len(answer[1])))
        expected = {(least, many + 2 - least) for many in range(2, 8) for least in range(2, many // 2 + 2)}
        self.assertEqual(sizes, expected)

    def test_random_polytopes(self):
        found = 0
        for dimension, width in ((2, 9), (3, 5), (4, 5), (5, 5), (6, 4)):
            for value in random_values(26, dimension, dimension + 2, width, 30):
                if is_polytope(value):
                    found += 1
                    self.assertEqual((radon_parts(value), dependence_of(value)), parts_by_definition(value))
                    self.assertEqual(missing_faces(value), tuple(sorted(radon_parts(value))))
        self.assertGreater(found, 30)

    def test_numbers_of_40_figures(self):
        for dimension in (2, 3, 4):
            value = long_polytope(26, dimension, dimension + 2)
            self.assertEqual((radon_parts(value), dependence_of(value)), parts_by_definition(value))

    def test_all_points_fall_into_both(self):
        for value in many_polytopes():
            first, second = radon_parts(value)
            self.assertEqual(sorted(first + second), list(range(value[0] + 2)))
            self.assertLessEqual((len(first), first), (len(second), second))
            self.assertEqual([list(first), list(second)], [sorted(first), sorted(second)])

    def test_the_missing_faces(self):
        for value in many_polytopes():
            self.assertEqual(missing_faces(value), tuple(sorted(radon_parts(value))))
            self.assertEqual(len(facets_of(value)), len(radon_parts(value)[0]) * len(radon_parts(value)[1]))

    def test_the_g_row(self):
        for value in many_polytopes():
            least = len(radon_parts(value)[0])
            expected = tuple(1 if degree < least else 0 for degree in range(value[0] // 2 + 1))
            self.assertEqual(g_row(value[0], face_row(value)), expected)


class Dependences(unittest.TestCase):
    def test_by_hand(self):
        half, one, less = (-1, 2), (1, 1), (-1, 1)
        self.assertEqual(dependence_of(TOPS), (half, half, half, half, one, one))
        self.assertEqual(dependence_of(polytope=SQUARE), (one, less, one, less))
        self.assertEqual(dependence_of((2, SQUARE[1][1:] + SQUARE[1][:1])), (one, less, one, less))
        five, ten = (-5, 1), (10, 1)
        self.assertEqual(dependence_of(cyclic(4, 6)), (one, five, ten, (-10, 1), (5, 1), less))

    def test_as_defined(self):
        for value in many_polytopes():
            answer = dependence_of(value)
            self.assertTrue(is_plain(answer))
            self.assertTrue(all(number == ratio(Fraction(*number)) for number in answer))
            numbers = [Fraction(*number) for number in answer]
            self.assertEqual(sum(numbers), 0)
            for at in range(value[0]):
                self.assertEqual(sum(number * point[at] for number, point in zip(numbers, worths(value))), 0)
            first, second = radon_parts(value)
            self.assertEqual(numbers[first[0]], 1)
            self.assertTrue(all(numbers[index] > 0 for index in first))
            self.assertTrue(all(numbers[index] < 0 for index in second))

    def test_there_is_just_one(self):
        for value in many_polytopes():
            self.assertEqual(rank([[Fraction(1)] + point for point in worths(value)]), value[0] + 1)

    def test_equal_calls(self):
        self.assertEqual(dependence_of(TOPS), dependence_of((4, tuple(list(TOPS[1])))))


class WrongPolytopes(unittest.TestCase):
    def check(self, value):
        for call in (radon_parts, dependence_of):
            error = raised(InvalidPolytope, call, value)
            self.assertIs(error.given, value)
            self.assertEqual(list(vars(error)), ["given"])
            self.assertIs(raised(InvalidPolytope, call, polytope=value).given, value)

    def test_no_polytope(self):
        for value in NO_POLYTOPES:
            self.check(value)

    def test_another_number_of_points(self):
        for dimension in range(2, 8):
            for value in (simplex(dimension), stacked(dimension, 2), stacked(dimension, 3),
                          cyclic(dimension, dimension + 3), cyclic(dimension, dimension + 4)):
                self.assertIs(is_polytope(value), True)
                self.check(value)
            self.assertEqual(len(radon_parts(bipyramid(dimension))), 2)
        self.check(OCTA)


if __name__ == "__main__":
    unittest.main()
