"""Equations and determinants in whole numbers, on which the geometry stands."""

import random
import unittest
from fractions import Fraction
from math import gcd

from facenumbers.linear import PRIME, determinant, is_full_modulo_prime, kernel, reduced
from tests import examples


def random_matrices(seed, many):
    source = random.Random(seed)
    for _ in range(many):
        height, width = source.randint(1, 5), source.randint(1, 6)
        size = source.choice((1, 2, 10 ** 20))
        rows = [[source.randint(-size, size) for _ in range(width)] for _ in range(height)]
        if source.randint(0, 2) == 0:
            rows.append([3 * one - 2 * two for one, two in zip(rows[0], rows[-1])])
        yield rows, width


class Equations(unittest.TestCase):
    def test_by_hand(self):
        self.assertEqual(kernel([[2, 4, 6]], 3), [[-2, 1, 0], [-3, 0, 1]])
        self.assertEqual(kernel([[0, 2, 4], [0, 1, 5]], 3), [[1, 0, 0]])
        self.assertEqual(kernel([[1, 0], [0, 1]], 2), [])

    def test_reduced(self):
        for rows, width in random_matrices(1, 300):
            before = [list(row) for row in rows]
            solved, pivots, divisor = reduced(rows, width)
            self.assertEqual(rows, before)
            self.assertEqual(len(pivots), examples.rank([[Fraction(number) for number in row] for row in rows]))
            for at, row in enumerate(solved):
                self.assertEqual([row[pivot] for pivot in pivots], [divisor * (at == k) for k in range(len(pivots))])
            # Each row is the sum of the solved ones, as often as its numbers in the pivots tell.
            for row in rows:
                for column in range(width):
                    total = sum(row[pivot] * one[column] for pivot, one in zip(pivots, solved))
                    self.assertEqual(total, row[column] * divisor)

    def test_kernel(self):
        for rows, width in random_matrices(2, 300):
            basis = kernel(rows, width)
            rank = examples.rank([[Fraction(number) for number in row] for row in rows])
            self.assertEqual(len(basis), width - rank)
            for vector in basis:
                self.assertEqual(gcd(*vector), 1)
                for row in rows:
                    self.assertEqual(sum(one * two for one, two in zip(row, vector)), 0)
            if basis:
                self.assertEqual(examples.rank([[Fraction(number) for number in row] for row in basis]), len(basis))


class FullRank(unittest.TestCase):
    def test_by_hand(self):
        self.assertIs(is_full_modulo_prime([[1, 2], [3, 4]], 2), True)
        self.assertIs(is_full_modulo_prime([[0, 2], [3, 0], [0, 0]], 2), True)
        self.assertIs(is_full_modulo_prime([[1, 2], [2, 4]], 2), False)
        self.assertIs(is_full_modulo_prime([[1, 2]], 2), False)
        self.assertIs(is_full_modulo_prime([], 1), False)
        self.assertIs(is_full_modulo_prime([], 0), True)

    def test_nothing_is_said_of_what_the_prime_divides(self):
        self.assertIs(is_full_modulo_prime([[PRIME, 0], [0, 1]], 2), False)

    def test_as_the_rank(self):
        answers = set()
        for rows, width in random_matrices(4, 400):
            before = [list(row) for row in rows]
            said = is_full_modulo_prime(rows, width)
            self.assertEqual(rows, before)
            self.assertIs(said, examples.rank([[Fraction(number) for number in row] for row in rows]) == width)
            answers.add(said)
        self.assertEqual(answers, {True, False})


class Determinants(unittest.TestCase):
    def test_by_hand(self):
        self.assertEqual(determinant([]), 1)
        self.assertEqual(determinant([[-7]]), -7)
        self.assertEqual(determinant([[1, 2], [3, 4]]), -2)
        self.assertEqual(determinant([[0, 1, 0], [0, 0, 1], [1, 0, 0]]), 1)

    def test_three_rows(self):
        source = random.Random(3)
        for _ in range(100):
            rows = [[source.randint(-9, 9) for _ in range(3)] for _ in range(3)]
            self.assertEqual(determinant(rows), examples.determinant([[Fraction(one) for one in row] for row in rows]))


if __name__ == "__main__":
    unittest.main()
