"""Promises [10] and [11]: face rows, h-rows, g-rows and the way back; [4] and [5] for these functions."""

import random
import unittest
from math import comb

from facenumbers.errors import InvalidNumber, InvalidPolytope, InvalidRow, InvalidSequence
from facenumbers.polytopes import faces_of, facets_of
from facenumbers.rows import face_row, g_row, h_row, row_of
from tests.examples import (
    CROSS, JUNK, OCTA, SQUARE, TOPS, cyclic, faces_by_definition, is_plain, simplex, some_polytopes, stacked,
)
from tests.test_faces import NO_POLYTOPES, raised

LIMIT = 10 ** 9


def h_by_polynomials(dimension, row):
    """The numbers of h(T), the sum of f_(K - 1) * T ** K * (1 - T) ** (D - K)."""
    total = [0] * (dimension + 1)
    for power, count in enumerate((1,) + row):
        for more in range(dimension - power + 1):
            total[power + more] += count * (-1) ** more * comb(dimension - power, more)
    return tuple(total)


def random_rows(seed, many):
    source = random.Random(seed)
    for dimension in range(2, 8):
        for _ in range(many):
            width = source.choice((3, 100, LIMIT))
            yield dimension, tuple(source.randint(-width, width) for _ in range(dimension))


class FaceRows(unittest.TestCase):
    def test_by_hand(self):
        self.assertEqual(face_row(SQUARE), (4, 4))
        self.assertEqual(face_row(polytope=OCTA), (6, 12, 8))
        self.assertEqual(face_row(CROSS), (8, 24, 32, 16))
        self.assertEqual(face_row(TOPS), (6, 14, 16, 8))
        self.assertEqual(face_row(cyclic(7, 11)), (11, 55, 165, 315, 371, 245, 70))

    def test_simplices(self):
        for dimension in range(2, 8):
            expected = tuple(comb(dimension + 1, many) for many in range(1, dimension + 1))
            self.assertEqual(face_row(simplex(dimension)), expected)

    def test_as_defined(self):
        for name, value in some_polytopes().items():
            row = face_row(value)
            faces = faces_by_definition(facets_of(value))
            self.assertTrue(is_plain(row))
            self.assertEqual(len(row), value[0])
            for at, number in enumerate(row):
                self.assertEqual(number, sum(len(face) == at + 1 for face in faces), name)
                self.assertEqual(number, len(faces_of(value, at + 1)), name)

    def test_eulers_sum(self):
        for name, value in some_polytopes().items():
            total = sum((-1) ** at * number for at, number in enumerate(face_row(value)))
            self.assertEqual(total, 0 if value[0] % 2 == 0 else 2, name)

    def test_no_polytope(self):
        for value in NO_POLYTOPES:
            error = raised(InvalidPolytope, face_row, value)
            self.assertIs(error.given, value)
            self.assertEqual(list(vars(error)), ["given"])


class HRows(unittest.TestCase):
    def test_by_hand(self):
        self.assertEqual(h_row(3, (6, 12, 8)), (1, 3, 3, 1))
        self.assertEqual(h_row(4, (8, 24, 32, 16)), (1, 4, 6, 4, 1))
        self.assertEqual(h_row(row=(5, 5), dimension=2), (1, 3, 1))
        self.assertEqual(h_row(2, (0, 0)), (1, -2, 1))
        self.assertEqual(h_row(2, (7, 100)), (1, 5, 94))

    def test_any_numbers(self):
        for dimension, row in random_rows(1, 40):
            answer = h_row(dimension, row)
            self.assertEqual(answer, h_by_polynomials(dimension, row))
            self.assertTrue(is_plain(answer))
            self.assertEqual(len(answer), dimension + 1)
            self.assertEqual(answer[0], 1)

    def test_back(self):
        for dimension, row in random_rows(2, 20):
            h = h_row(dimension, row)
            for many in range(1, dimension + 1):
                total = sum(h[at] * comb(dimension - at, many - at) for at in range(many + 1))
                self.assertEqual(total, row[many - 1])

    def test_symmetric_for_polytopes(self):
        for name, value in some_polytopes().items():
            h = h_row(value[0], face_row(value))
            self.assertEqual(h, h[::-1], name)
            self.assertEqual(h[1], len(value[1]) - value[0])
            self.assertEqual(sum(h), len(facets_of(value)))

    def test_not_symmetric_for_all_rows(self):
        self.assertEqual(h_row(4, (7, 19, 24, 13)), (1, 3, 4, 3, 2))


class GRows(unittest.TestCase):
    def test_by_hand(self):
        self.assertEqual(g_row(3, (6, 12, 8)), (1, 2))
        self.assertEqual(g_row(4, (7, 22, 30, 15)), (1, 2, 4))
        self.assertEqual(g_row(4, (8, 24, 32, 16)), (1, 3, 2))
        self.assertEqual(g_row(row=(5, 5), dimension=2), (1, 2))
        self.assertEqual(g_row(2, (0, 0)), (1, -3))
        self.assertEqual(g_row(4, face_row(TOPS)), (1, 1, 0))

    def test_any_numbers(self):
        for dimension, row in random_rows(3, 40):
            h = h_by_polynomials(dimension, row)
            answer = g_row(dimension, row)
            half = dimension // 2
            self.assertEqual(len(answer), half + 1)
            self.assertTrue(is_plain(answer))
            self.assertEqual(answer, (1,) + tuple(h[at] - h[at - 1] for at in range(1, half + 1)))
            self.assertEqual(answer[1], row[0] - dimension - 1)

    def test_polytopes(self):
        for dimension in range(2, 8):
            half = dimension // 2
            self.assertEqual(g_row(dimension, face_row(simplex(dimension))), (1,) + (0,) * half)
            for more in range(1, 4):
                expected = tuple(comb(more + at - 1, at) for at in range(half + 1))
                self.assertEqual(g_row(dimension, face_row(cyclic(dimension, dimension + 1 + more))), expected)
                expected = (1, more) + (0,) * (half - 1)
                self.assertEqual(g_row(dimension, face_row(stacked(dimension, more))), expected)


class WrongRows(unittest.TestCase):
    def both(self, error, dimension, row):
        found = []
        for call in (h_row, g_row):
            caught = raised(error, call, dimension, row)
            self.assertEqual(list(vars(caught)), ["given"])
            self.assertIs(caught.given, raised(error, call, row=row, dimension=dimension).given)
            found.append(caught.given)
        self.assertIs(found[0], found[1])
        return found[0]

    def test_dimensions(self):
        for dimension in (1, 8, 0, -1, -3, 10 ** 30, None, True, False, "3", (), (3,), [3], b"3", {}, OCTA):
            for row in ((6, 12, 8), (1,), (1,) * 8, (), None, "x"):
                self.assertIs(self.both(InvalidNumber, dimension, row), dimension)

    def test_rows_of_another_form(self):
        for dimension in range(2, 8):
            right = tuple(range(dimension))
            for row in JUNK + (list(right), right[:-1], right + (0,), ((),) * dimension, right[:-1] + (None,),
                               "1" * dimension, set(right), dict(zip(right, right)), range(dimension), (right,)):
                self.assertIs(self.both(InvalidRow, dimension, row), row)

    def test_rows_with_what_is_no_number(self):
        for dimension in range(2, 8):
            for at in range(dimension):
                for wrong in (True, False, None, "1", (1,), [1], LIMIT + 1, -LIMIT - 1, 10 ** 40, -10 ** 40):
                    row = (5,) * at + (wrong,) + (5,) * (dimension - at - 1)
                    self.assertIs(self.both(InvalidRow, dimension, row), row)

    def test_at_the_bounds(self):
        for dimension in range(2, 8):
            for at in range(dimension):
                for number in (LIMIT, -LIMIT, 0, LIMIT - 1):
                    row = (5,) * at + (number,) + (5,) * (dimension - at - 1)
                    self.assertEqual(h_row(dimension, row), h_by_polynomials(dimension, row))
                    self.assertEqual(g_row(dimension, row)[1], row[0] - dimension - 1)


class RowOf(unittest.TestCase):
    def sequences(self, seed, many):
        source = random.Random(seed)
        for dimension in range(2, 8):
            for _ in range(many):
                width = source.choice((2, 50, 1000))
                yield dimension, (1,) + tuple(source.randint(-width, width) for _ in range(dimension // 2))

    def test_by_hand(self):
        self.assertEqual(row_of(3, (1, 2)), (6, 12, 8))
        self.assertEqual(row_of(4, (1, 3, 2)), (8, 24, 32, 16))
        self.assertEqual(row_of(sequence=(1, 0), dimension=2), (3, 3))
        self.assertEqual(row_of(2, (1, -3)), (0, 0))
        self.assertEqual(row_of(4, (1, 2, 4)), (7, 22, 30, 15))

    def test_there_and_back(self):
        for dimension, sequence in self.sequences(4, 40):
            row = row_of(dimension, sequence)
            self.assertTrue(is_plain(row))
            self.assertEqual(len(row), dimension)
            h = h_row(dimension, row)
            self.assertEqual(h, h[::-1])
            self.assertEqual(g_row(dimension, row), sequence)

    def test_polytopes_have_the_row_of_their_g_row(self):
        for name, value in some_polytopes().items():
            row = face_row(value)
            self.assertEqual(row_of(value[0], g_row(value[0], row)), row, name)

    def test_at_the_bounds(self):
        for dimension in range(2, 8):
            for number in (1000, -1000, 0):
                sequence = (1,) + (number,) * (dimension // 2)
                self.assertEqual(g_row(dimension, row_of(dimension, sequence)), sequence)

    def test_no_dimension(self):
        for dimension in (1, 8, 0, -2, 10 ** 30, None, True, "4", (4,), [4], OCTA):
            for sequence in ((1, 2), (1,), None, (2,)):
                self.assertIs(raised(InvalidNumber, row_of, dimension, sequence).given, dimension)

    def test_no_tuple_of_the_length(self):
        for dimension in range(2, 8):
            half = dimension // 2
            right = (1,) + (0,) * half
            for sequence in (None, True, 1, "", "1" * (half + 1), b"11", (), [], {}, list(right), right[:-1],
                             right + (0,), set(right), {1: 0}, range(half + 1), (2,) * half, (None,) * (half + 2)):
                error = raised(InvalidSequence, row_of, dimension, sequence)
                self.assertIsNone(error.index)
                self.assertEqual(list(vars(error)), ["index"])

    def test_the_first_wrong_number(self):
        for dimension in range(2, 8):
            many = dimension // 2 + 1
            for at in range(many):
                for wrong in (1001, -1001, True, False, None, "1", (1,), [1], 10 ** 40, ()):
                    sequence = (1,) + (3,) * (many - 1)
                    sequence = sequence[:at] + (wrong,) + sequence[at + 1:]
                    self.assertEqual(raised(InvalidSequence, row_of, dimension, sequence).index, at)
                    sequence = sequence[:at] + (wrong,) * (many - at)
                    self.assertEqual(raised(InvalidSequence, row_of, sequence=sequence, dimension=dimension).index, at)

    def test_what_is_not_1_and_stands_first(self):
        for first in (0, 2, -1, 1000, 1001, True, None, "1"):
            for rest in ((0, 0), (1001, 0), (None, None)):
                self.assertEqual(raised(InvalidSequence, row_of, 5, (first,) + rest).index, 0)


if __name__ == "__main__":
    unittest.main()
