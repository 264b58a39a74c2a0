"""Promises [17] and [18]: polytopes with wanted numbers; [4], [5], [6] and [16] for these functions."""

import unittest
from fractions import Fraction
from itertools import combinations, product

from facenumbers.errors import InvalidNumber, InvalidRow, NoPolytope
from facenumbers.facerows import least_row, most_row, rows_with, why_none
from facenumbers.making import line_of, made
from facenumbers.monomials import compressed
from facenumbers.polytopes import is_polytope
from facenumbers.rows import face_row, g_row, row_of
from facenumbers.texts import read_polytope, show_polytope
from tests.examples import JUNK, is_plain, ratio
from tests.test_facerows import EVERY, NO_NUMBERS
from tests.test_faces import raised

OTHERS = [-3, -1, 0, 1, 2, 4, 8, 16, 40]
ROWS = [(dimension, row) for dimension, points in EVERY for row in rows_with(dimension, points)]


def ahead_by_definition(dimension):
    return [-4] if dimension % 2 == 0 else [-5, -4]


def away(lot, number):
    total = 1
    for one in lot:
        total *= number - one
    return total


class Recipe:
    """What [17] and [18] tell for a g-row, word by word, in Fractions."""

    def __init__(self, dimension, sequence):
        self.dimension, self.sequence = dimension, sequence
        self.half = dimension // 2
        self.ahead = ahead_by_definition(dimension)
        self.others = OTHERS[:2 * self.half + sequence[1]]
        self.line = self.ahead + self.others
        numbers = range(sequence[1] + 1)
        self.placings = [one for one in product(numbers, repeat=self.half) if list(one) == sorted(one)]
        ideal = compressed(sequence)
        self.taken = [one for one in self.placings if tuple(part for part in one if part) in ideal]

    def lot(self, placing):
        lot = list(self.ahead)
        for at, part in enumerate(placing, 1):
            lot += [self.others[2 * at - 1 + part - 1], self.others[2 * at - 1 + part]]
        return lot

    def parted(self, degree):
        """P_F(A) of the taken placings of the degree, and of the others."""
        number = self.others[2 * (self.half - degree) + 1 - 1]
        lots = [one for one in self.placings if sum(part > 0 for part in one) == degree]
        kept = [away(self.lot(one), number) for one in lots if one in self.taken]
        left = [away(self.lot(one), number) for one in lots if one not in self.taken]
        return number, kept, left

    def weights(self):
        found = []
        for degree in range(2, self.half + 1):
            number, kept, left = self.parted(degree)
            found.append((number, Fraction(2, max(kept, default=0) + min(left)) if left else Fraction(0)))
        if self.dimension % 2 == 0:
            return found + [(-4, Fraction(1))]
        pairs = [(at, at + 1) for at in range(1, len(self.line) - 1)]
        lots = [sum(lot, ()) for lot in combinations(pairs, self.half + 1)]
        lots = [[self.line[at] for at in lot] for lot in lots if len(set(lot)) == len(lot)]
        return found + [(-5, Fraction(2, min(away(lot, -5) for lot in lots)) if lots else Fraction(1))]

    def points(self):
        weights = self.weights()
        total = sum(weight for _, weight in weights)
        powers = range(1, self.dimension + 1)
        middle = [sum(weight * number ** power for number, weight in weights) / total for power in powers]
        lot = self.lot((0,) * self.half)
        return tuple(
            tuple(ratio((number ** power - one) / (away(lot, number) + 1 / total)) for power, one in zip(powers, middle))
            for number in self.line
        )


class Lines(unittest.TestCase):
    def test_by_hand(self):
        self.assertEqual(line_of(4, 7), (-4, -3, -1, 0, 1, 2, 4))
        self.assertEqual(line_of(points=4, dimension=3), (-5, -4, -3, -1))
        self.assertEqual(line_of(2, 3), (-4, -3, -1))
        self.assertEqual(line_of(2, 6), (-4, -3, -1, 0, 1, 2))
        self.assertEqual(line_of(6, 10), (-4, -3, -1, 0, 1, 2, 4, 8, 16, 40))
        self.assertEqual(line_of(7, 11), (-5, -4, -3, -1, 0, 1, 2, 4, 8, 16, 40))

    def test_as_defined(self):
        for dimension, points in EVERY:
            others = OTHERS[:2 * (dimension // 2) + points - dimension - 1]
            answer = line_of(dimension, points)
            self.assertEqual(answer, tuple(ahead_by_definition(dimension) + others))
            self.assertEqual(len(answer), points)
            self.assertTrue(is_plain(answer))

    def test_wrong_arguments(self):
        for dimension in NO_NUMBERS + (1, 8, 0, -2):
            for points in (5, 0, None, "x"):
                error = raised(InvalidNumber, line_of, dimension, points)
                self.assertIs(error.given, dimension)
                self.assertEqual(list(vars(error)), ["given"])
                self.assertIs(raised(InvalidNumber, line_of, points=points, dimension=dimension).given, dimension)
        for dimension in range(2, 8):
            for points in NO_NUMBERS + (dimension, dimension + 5, 0, -dimension - 1):
                error = raised(InvalidNumber, line_of, dimension, points)
                self.assertIs(error.given, points)
                self.assertIs(raised(InvalidNumber, line_of, points=points, dimension=dimension).given, points)


class Made(unittest.TestCase):
    def test_by_hand(self):
        self.assertEqual(face_row(made(4, (7, 19, 24, 12))), (7, 19, 24, 12))
        self.assertEqual(face_row(made(row=(5, 5), dimension=2)), (5, 5))
        # One weight, 1 at - 4: the numbers (U ** K - (- 4) ** K) / ((U + 4) * (U + 3) * (U + 1) + 1).
        self.assertEqual(made(2, (3, 3)), (2, (((0, 1), (0, 1)), ((1, 1), (-7, 1)), ((3, 1), (-15, 1)))))

    def test_every_row(self):
        self.assertEqual(len(ROWS), 138)
        for dimension, row in ROWS:
            value = made(dimension, row)
            self.assertTrue(is_plain(value))
            self.assertEqual(value[0], dimension)
            self.assertIs(is_polytope(value), True, (dimension, row))
            self.assertEqual(face_row(value), row, dimension)
            self.assertEqual(len(value[1]), row[0])

    def test_told_ratios(self):
        for dimension, row in ROWS:
            for point in made(dimension, row)[1]:
                for over, under in point:
                    self.assertLess(max(abs(over), under), 10 ** 40)
                    self.assertEqual((over, under), ratio(Fraction(over, under)))
            value = made(dimension, row)
            self.assertEqual(read_polytope(show_polytope(value)), value)

    def test_equal_calls(self):
        for dimension, row in ROWS[::5]:
            self.assertEqual(made(dimension, row), made(dimension, tuple(list(row))))

    def test_as_told_in_the_document(self):
        for dimension, row in ROWS:
            recipe = Recipe(dimension, g_row(dimension, row))
            self.assertEqual(made(dimension, row), (dimension, recipe.points()))

    def test_taken_placings_are_parted_from_the_others(self):
        for dimension, row in ROWS:
            recipe = Recipe(dimension, g_row(dimension, row))
            self.assertEqual(len(recipe.line), row[0])
            self.assertEqual(len(recipe.taken), sum(g_row(dimension, row)))
            for degree in range(2, dimension // 2 + 1):
                _, kept, left = recipe.parted(degree)
                self.assertLess(max(kept, default=0), min(left, default=10 ** 9))

    def test_most_and_least(self):
        for dimension, points in EVERY:
            for row in (most_row(dimension, points), least_row(dimension, points)):
                self.assertEqual(face_row(made(dimension, row)), row)


class NoRow(unittest.TestCase):
    def check(self, dimension, row):
        bar = why_none(dimension, row)
        if bar is None:
            self.assertEqual(face_row(made(dimension, row)), row)
            return
        error = raised(NoPolytope, made, dimension, row)
        self.assertEqual(error.given, bar)
        self.assertTrue(type(error.given) is tuple)
        self.assertEqual(list(vars(error)), ["given"])
        self.assertEqual(raised(NoPolytope, made, row=row, dimension=dimension).given, bar)

    def test_by_hand(self):
        for dimension, row, bar in ((4, (7, 22, 30, 15), ("too many", 2)), (4, (7, 19, 24, 13), ("unlike", 0)),
                                    (4, (7, 17, 20, 10), ("below", 2)), (2, (5, 6), ("unlike", 0)),
                                    (6, row_of(6, (1, 2, 1, 2)), ("too many", 3)),
                                    (7, row_of(7, (1, 3, 6, -1)), ("below", 3)), (3, (5, 8, 5), ("unlike", 1))):
            self.assertEqual(raised(NoPolytope, made, dimension, row).given, bar)

    def test_sequences_that_fail(self):
        for dimension in range(4, 8):
            for more in range(4):
                for rest in product((-1, 0, 3, 7), repeat=dimension // 2 - 1):
                    self.check(dimension, row_of(dimension, (1, more) + rest))

    def test_one_number_otherwise(self):
        for dimension, row in ROWS[::3]:
            for at in range(1, dimension):
                for change in (-1, 1):
                    self.check(dimension, row[:at] + (row[at] + change,) + row[at + 1:])


class WrongArguments(unittest.TestCase):
    def test_dimension(self):
        for dimension in NO_NUMBERS + (1, 8, 0, -2):
            for row in ((6, 12, 8), (4, 4), None, 5):
                error = raised(InvalidNumber, made, dimension, row)
                self.assertIs(error.given, dimension)
                self.assertIs(raised(InvalidNumber, made, row=row, dimension=dimension).given, dimension)

    def test_row(self):
        for dimension in range(2, 8):
            right = least_row(dimension, dimension + 2)
            lists = JUNK + (list(right), right[:-1], right + (0,), (right,), (dimension,) + right[1:],
                            (dimension + 5,) + right[1:], (True,) + right[1:], right[:-1] + (None,),
                            right[:-1] + (10 ** 9 + 1,), right[:-1] + (-10 ** 9 - 1,), right[:-1] + (False,))
            for row in lists:
                error = raised(InvalidRow, made, dimension, row)
                self.assertIs(error.given, row)
                self.assertEqual(list(vars(error)), ["given"])
                self.assertIs(raised(InvalidRow, made, row=row, dimension=dimension).given, row)


if __name__ == "__main__":
    unittest.main()
