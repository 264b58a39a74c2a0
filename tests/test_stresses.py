"""Promise [23]: edges and stresses; [4], [5] and [6] for these functions."""

import random
import unittest
from fractions import Fraction
from math import comb

from facenumbers.errors import InvalidPolytope
from facenumbers.facerows import rows_with
from facenumbers.making import made
from facenumbers.polytopes import faces_of, is_polytope
from facenumbers.rows import face_row, g_row
from facenumbers.stresses import edges_of, is_stress, stresses_of
from tests.examples import (
    CROSS, JUNK, OCTA, SQUARE, TOPS, cyclic, is_plain, pointed, random_told_ratio, ratio, simplex, some_polytopes,
    stacked, worths,
)
from tests.test_faces import NO_POLYTOPES, raised

ONE, NONE = (1, 1), (0, 1)
FLAT = [SQUARE, simplex(2), cyclic(2, 6), pointed(2, [[0, 0], [3, 1], [1, 3]])]


def many_polytopes():
    found = {name: value for name, value in some_polytopes().items() if value[0] > 2}
    for dimension, points in ((3, 7), (4, 7), (4, 8), (5, 9), (6, 10), (7, 11)):
        for row in rows_with(dimension, points)[::5]:
            found[f"made {dimension} {row}"] = made(dimension, row)
    return found


def sums(value, edges, numbers):
    """The sums of [23], for each point and coordinate."""
    points = worths(value)
    totals = [[Fraction(0)] * value[0] for _ in points]
    for (one, two), number in zip(edges, numbers):
        for at in range(value[0]):
            totals[one][at] += number * (points[two][at] - points[one][at])
            totals[two][at] += number * (points[one][at] - points[two][at])
    return totals


def is_stress_by_definition(value, numbers):
    return not any(total for row in sums(value, edges_of(value), numbers) for total in row)


def reduced_kernel(rows, width):
    """The reduced basis of what all rows are perpendicular to, by solving from the last column on."""
    rows = [list(row) for row in rows]
    pivots = []
    for column in reversed(range(width)):
        below = [at for at in range(len(pivots), len(rows)) if rows[at][column] != 0]
        if below:
            place = len(pivots)
            rows[place], rows[below[0]] = rows[below[0]], rows[place]
            rows[place] = [number / rows[place][column] for number in rows[place]]
            for at, row in enumerate(rows):
                if at != place and row[column] != 0:
                    rows[at] = [one - row[column] * two for one, two in zip(row, rows[place])]
            pivots.append(column)
    basis = []
    for free in range(width):
        if free not in pivots:
            vector = [Fraction(column == free) for column in range(width)]
            for at, pivot in enumerate(pivots):
                vector[pivot] = -rows[at][free]
            basis.append(tuple(map(ratio, vector)))
    return tuple(basis)


def stresses_by_definition(value):
    edges = edges_of(value)
    columns = []
    for at in range(len(edges)):
        unit = [Fraction(place == at) for place in range(len(edges))]
        columns.append([total for row in sums(value, edges, unit) for total in row])
    return reduced_kernel([list(row) for row in zip(*columns)], len(edges))


def summed(basis, factors):
    """A sum of stresses, each taken so many times."""
    return tuple(
        ratio(sum(factor * Fraction(*number) for factor, number in zip(factors, numbers))) for numbers in zip(*basis)
    )


class Edges(unittest.TestCase):
    def test_by_hand(self):
        self.assertEqual(edges_of(OCTA)[:4], ((0, 2), (0, 3), (0, 4), (0, 5)))
        self.assertEqual(edges_of(polytope=simplex(3)), ((0, 1), (0, 2), (0, 3), (1, 2), (1, 3), (2, 3)))
        self.assertNotIn((4, 5), edges_of(TOPS))
        self.assertEqual(len(edges_of(TOPS)), 14)

    def test_as_defined(self):
        for name, value in many_polytopes().items():
            answer = edges_of(value)
            self.assertTrue(is_plain(answer))
            self.assertEqual(answer, faces_of(value, 2), name)
            self.assertEqual(len(answer), face_row(value)[1])


class Bases(unittest.TestCase):
    def test_by_hand(self):
        self.assertEqual(stresses_of(OCTA), ())
        self.assertEqual(stresses_of(polytope=TOPS), ())
        # Six points in general position of which each two are an edge: one stress, products of the dependence.
        value = cyclic(4, 6)
        self.assertEqual(len(stresses_of(value)), 1)
        often = [(-1) ** at * comb(5, at) for at in range(6)]
        expected = tuple(ratio(Fraction(often[one] * often[two], often[0] * often[1])) for one, two in edges_of(value))
        self.assertEqual(stresses_of(value), (expected,))

    def test_how_many(self):
        for name, value in many_polytopes().items():
            dimension, row = value[0], face_row(value)
            answer = stresses_of(value)
            self.assertEqual(len(answer), row[1] - dimension * row[0] + comb(dimension + 1, 2), name)
            self.assertEqual(len(answer), g_row(dimension, row)[2] if dimension > 3 else 0)

    def test_none_for_dimension_3(self):
        for value in (simplex(3), OCTA, cyclic(3, 7), stacked(3, 3), stacked(3, 1), made(3, (7, 15, 10))):
            self.assertEqual(stresses_of(value), ())

    def test_reduced(self):
        for name, value in many_polytopes().items():
            answer = stresses_of(value)
            self.assertTrue(is_plain(answer))
            places = []
            for stress in answer:
                self.assertEqual(len(stress), len(edges_of(value)))
                self.assertTrue(all(number == ratio(Fraction(*number)) for number in stress))
                self.assertTrue(is_stress_by_definition(value, [Fraction(*number) for number in stress]), name)
                places.append([number != NONE for number in stress].index(True))
            self.assertEqual(places, sorted(set(places)))
            for at, stress in enumerate(answer):
                self.assertEqual([stress[place] for place in places], [ONE if at == k else NONE
                                                                       for k in range(len(places))])

    def test_as_defined(self):
        for name, value in many_polytopes().items():
            if value[0] <= 4 or (value[0] == 5 and len(value[1]) <= 8):
                self.assertEqual(stresses_of(value), stresses_by_definition(value), name)

    def test_in_another_order(self):
        for seed in range(4):
            for value in (CROSS, cyclic(4, 7), made(4, (8, 26, 36, 18))):
                points = list(value[1])
                random.Random(seed).shuffle(points)
                other = (4, tuple(points))
                self.assertEqual(stresses_of(other), stresses_by_definition(other))

    def test_numbers_of_40_figures(self):
        source = random.Random(23)
        for dimension, points in ((3, 6), (4, 7)):
            value = None
            while not is_polytope(value):
                value = (dimension, tuple(
                    tuple(random_told_ratio(source) for _ in range(dimension)) for _ in range(points)
                ))
            answer = stresses_of(value)
            self.assertEqual(answer, stresses_by_definition(value))
            for stress in answer:
                self.assertIs(is_stress(value, stress), True)


class IsStress(unittest.TestCase):
    def test_by_hand(self):
        self.assertIs(is_stress(OCTA, (NONE,) * 12), True)
        self.assertIs(is_stress(OCTA, (ONE,) * 12), False)
        self.assertIs(is_stress(value=(NONE,) * 6, polytope=simplex(3)), True)
        often = [(-1) ** at * comb(5, at) for at in range(6)]
        stress = tuple((often[one] * often[two], 1) for one, two in edges_of(cyclic(4, 6)))
        self.assertIs(is_stress(cyclic(4, 6), stress), True)

    def test_sums_of_stresses(self):
        source = random.Random(24)
        for name, value in many_polytopes().items():
            basis = stresses_of(value)
            if basis:
                for _ in range(3):
                    factors = [Fraction(source.randint(-99, 99), source.randint(1, 99)) for _ in basis]
                    stress = summed(basis, factors)
                    self.assertIs(is_stress(value, stress), True, name)

    def test_one_ratio_otherwise(self):
        for value in (CROSS, cyclic(4, 6), cyclic(5, 8), OCTA, simplex(3), made(7, (11, 55, 165, 315, 371, 245, 70))):
            basis = stresses_of(value)
            stress = summed(basis, [Fraction(at + 2, 3) for at in range(len(basis))])
            stress = stress if basis else (NONE,) * len(edges_of(value))
            self.assertIs(is_stress(value, stress), True)
            for at in range(len(stress)):
                for change in (1, Fraction(-1, 7), Fraction(1, 10 ** 60)):
                    other = stress[:at] + (ratio(Fraction(*stress[at]) + change),) + stress[at + 1:]
                    self.assertIs(is_stress(value, other), False)

    def test_as_defined(self):
        source = random.Random(25)
        for value in (CROSS, cyclic(4, 6), OCTA, TOPS):
            for _ in range(20):
                numbers = tuple(ratio(Fraction(source.randint(-3, 3), source.randint(1, 3))) for _ in edges_of(value))
                said = is_stress_by_definition(value, [Fraction(*number) for number in numbers])
                self.assertIs(is_stress(value, numbers), said)

    def test_each_coordinate_counts(self):
        # The ways from a simplex's first point to the others go along one coordinate each.
        for value in [simplex(dimension) for dimension in range(3, 8)] + [OCTA, CROSS]:
            many = len(edges_of(value))
            for at in range(many):
                self.assertIs(is_stress(value, tuple(ONE if place == at else NONE for place in range(many))), False)

    def test_more_than_40_figures(self):
        for figures in (41, 300, 3900):
            factor = Fraction(10 ** figures + 1, 3 * 10 ** (figures - 2) + 7)
            for value in (CROSS, cyclic(4, 6)):
                basis = stresses_of(value)
                stress = summed(basis, [factor] * len(basis))
                self.assertGreater(max(abs(over) for over, _ in stress), 10 ** (figures - 5))
                self.assertIs(is_stress(value, stress), True)
                at = [number != NONE for number in stress].index(True)
                wrong = stress[:at] + (ratio(Fraction(*stress[at]) + Fraction(1, 10 ** figures)),) + stress[at + 1:]
                self.assertIs(is_stress(value, wrong), False)

    def test_another_length(self):
        for many in (0, 1, 11, 13, 24):
            self.assertIs(is_stress(OCTA, (NONE,) * many), False)
        stress = stresses_of(CROSS)[0]
        self.assertIs(is_stress(CROSS, stress), True)
        for wrong in (stress[:-1], stress + (NONE,), stress[1:], stress * 2, (stress,), ()):
            self.assertIs(is_stress(CROSS, wrong), False)

    def test_values_of_any_kind(self):
        stress = stresses_of(CROSS)[0]
        for value in JUNK + (list(stress), dict.fromkeys(stress), set(stress), str(stress), CROSS):
            self.assertIs(is_stress(CROSS, value), False, value)
        places = [stress.index(NONE), stress.index(ONE)]
        for wrong in JUNK + ((1,), (0, 1, 1), [0, 1], (0, 2), (0, -1), (0, 0), (2, 2), (-1, -1), (1, 0), (True, 1),
                             (False, 1), (0, True), (1, True), ("0", 1), (0, "1"), (None, 1), ((0,), 1), "01", b"01",
                             (1, -1), (4, 2), ((0, 1), 1)):
            for at in places:
                self.assertIs(is_stress(CROSS, stress[:at] + (wrong,) + stress[at + 1:]), False, wrong)
            self.assertIs(is_stress(OCTA, (wrong,) * 12), False, wrong)


class WrongPolytopes(unittest.TestCase):
    def test_no_polytope(self):
        for value in NO_POLYTOPES + tuple(FLAT):
            for call, rest in ((edges_of, ()), (stresses_of, ()), (is_stress, ((),)), (is_stress, (None,))):
                error = raised(InvalidPolytope, call, value, *rest)
                self.assertIs(error.given, value)
                self.assertEqual(list(vars(error)), ["given"])

    def test_dimension_2_by_name(self):
        for value in FLAT:
            self.assertIs(is_polytope(value), True)
            self.assertIs(raised(InvalidPolytope, edges_of, polytope=value).given, value)
            self.assertIs(raised(InvalidPolytope, stresses_of, polytope=value).given, value)
            self.assertIs(raised(InvalidPolytope, is_stress, value=(NONE,) * 4, polytope=value).given, value)


if __name__ == "__main__":
    unittest.main()
