"""Promises [16] and [19]: which rows are face rows; [4], [5] and [6] for these functions."""

import random
import unittest
from itertools import product
from math import comb

from facenumbers.errors import InvalidNumber, InvalidRow
from facenumbers.facerows import is_face_row, least_row, most_row, rows_with, why_none
from facenumbers.polytopes import is_face, is_polytope
from facenumbers.rows import face_row, g_row, row_of
from tests.examples import JUNK, is_plain, random_values, some_polytopes, stacked
from tests.test_faces import raised
from tests.test_macaulay import most_by_definition
from tests.test_rows import h_by_polynomials

LIMIT = 10 ** 9
NO_NUMBERS = (None, True, False, "3", "", b"3", (), (3,), [3], {}, {3: 3}, {3}, 10 ** 40, -10 ** 40, object())
EVERY = [(dimension, points) for dimension in range(2, 8) for points in range(dimension + 1, dimension + 5)]


def bar_by_definition(dimension, row):
    """By [16], from the h-row."""
    h = h_by_polynomials(dimension, row)
    for at in range(dimension + 1):
        if h[at] != h[dimension - at]:
            return ("unlike", at)
    g = [h[0]] + [h[at] - h[at - 1] for at in range(1, dimension // 2 + 1)]
    for at in range(1, len(g)):
        if g[at] < 0:
            return ("below", at)
        if at > 1 and g[at] > most_by_definition(g[at - 1], at - 1):
            return ("too many", at)
    return None


def rows_by_definition(dimension, points):
    """From all sequences with numbers up to those of neighbourly polytopes."""
    more = points - dimension - 1
    most = [comb(more + at - 1, at) for at in range(2, dimension // 2 + 1)]
    found = []
    for rest in product(*[range(number + 1) for number in most]):
        row = row_of(dimension, (1, more) + rest)
        if bar_by_definition(dimension, row) is None:
            found.append(row)
    return tuple(sorted(found))


class WhyNone(unittest.TestCase):
    def check(self, dimension, row):
        bar = bar_by_definition(dimension, row)
        answer = why_none(dimension, row)
        self.assertEqual(answer, bar, (dimension, row))
        self.assertIs(is_face_row(dimension, row), bar is None)
        if bar is not None:
            self.assertEqual([type(answer), type(answer[0]), type(answer[1])], [tuple, str, int])
        return answer

    def test_by_hand(self):
        for dimension, row, bar in (
            (4, (7, 22, 30, 15), ("too many", 2)), (4, (7, 19, 24, 13), ("unlike", 0)),
            (4, (7, 17, 20, 10), ("below", 2)), (3, (6, 12, 8), None), (4, (8, 24, 32, 16), None), (2, (5, 5), None),
            (2, (5, 6), ("unlike", 0)), (2, (3, 3), None), (3, (4, 6, 4), None), (3, (5, 8, 5), ("unlike", 1)),
            (3, (5, 9, 6), None), (3, (5, 8, 6), ("unlike", 0)),
        ):
            self.assertEqual(why_none(row=row, dimension=dimension), bar, row)
            self.assertIs(is_face_row(row=row, dimension=dimension), bar is None)
            self.check(dimension, row)

    def test_unlike_at_each_place(self):
        for dimension, points in EVERY:
            right = least_row(dimension, points)
            self.assertIsNone(self.check(dimension, right))
            told = set()
            for seed in range(60):
                source = random.Random(seed)
                row = list(right)
                for at in source.sample(range(1, dimension), source.randint(1, dimension - 1)):
                    row[at] += source.choice((-2, -1, 1, 2))
                told.add(self.check(dimension, tuple(row)))
            self.assertIn(("unlike", 0), told)

    def test_unlike_behind_the_first(self):
        # Rows from h-rows that are wrong at one place: only the middle is free to be.
        for dimension, points in EVERY:
            h = h_by_polynomials(dimension, most_row(dimension, points))
            for at in range(1, dimension):
                for change in (-1, 1, 5):
                    other = h[:at] + (h[at] + change,) + h[at + 1:]
                    row = tuple(sum(other[one] * comb(dimension - one, many - one) for one in range(many + 1))
                                for many in range(1, dimension + 1))
                    if dimension + 1 <= row[0] <= dimension + 4:
                        answer = self.check(dimension, row)
                        if 2 * at != dimension:
                            self.assertEqual(answer, ("unlike", min(at, dimension - at)))

    def test_sequences_that_fail(self):
        told = set()
        for dimension, points in EVERY:
            half = dimension // 2
            for rest in product(range(-2, 13), repeat=half - 1):
                answer = self.check(dimension, row_of(dimension, (1, points - dimension - 1) + rest))
                told.add(answer)
        self.assertEqual(told, {None, ("below", 2), ("below", 3), ("too many", 2), ("too many", 3)})

    def test_the_first_of_several(self):
        self.assertEqual(self.check(6, row_of(6, (1, 2, -1, -1))), ("below", 2))
        self.assertEqual(self.check(6, row_of(6, (1, 2, 4, -1))), ("too many", 2))
        self.assertEqual(self.check(6, row_of(6, (1, 2, 3, -1))), ("below", 3))
        self.assertEqual(self.check(6, row_of(6, (1, 2, 1, 2))), ("too many", 3))
        self.assertEqual(self.check(6, row_of(6, (1, 2, -1, 9))), ("below", 2))
        row = row_of(4, (1, 2, 4))
        self.assertEqual(self.check(4, row[:3] + (row[3] + 1,)), ("unlike", 0))

    def test_any_rows(self):
        source = random.Random(16)
        for dimension, points in EVERY:
            for _ in range(30):
                width = source.choice((30, 1000, LIMIT))
                self.check(dimension, (points,) + tuple(source.randint(-width, width) for _ in range(dimension - 1)))
            for number in (LIMIT, -LIMIT):
                self.check(dimension, (points,) + (number,) * (dimension - 1))

    def test_great_symmetric_rows(self):
        for dimension in range(4, 8):
            for number in (1000, -1000, 999):
                self.check(dimension, row_of(dimension, (1, 3) + (number,) * (dimension // 2 - 1)))

    def test_polytopes(self):
        for name, value in some_polytopes().items():
            self.assertIsNone(self.check(value[0], face_row(value)), name)


class Rows(unittest.TestCase):
    def test_by_hand(self):
        self.assertEqual(rows_with(4, 7), ((7, 18, 22, 11), (7, 19, 24, 12), (7, 20, 26, 13), (7, 21, 28, 14)))
        self.assertEqual(rows_with(points=3, dimension=2), ((3, 3),))
        self.assertEqual(rows_with(2, 6), ((6, 6),))
        self.assertEqual(rows_with(3, 7), ((7, 15, 10),))
        self.assertEqual(len(rows_with(6, 10)), 36)
        self.assertEqual(rows_with(7, 8), ((8, 28, 56, 70, 56, 28, 8),))

    def test_as_defined(self):
        for dimension, points in EVERY:
            answer = rows_with(dimension, points)
            self.assertTrue(is_plain(answer))
            self.assertEqual(answer, rows_by_definition(dimension, points), (dimension, points))
            self.assertEqual(answer, rows_with(dimension, points))
            self.assertTrue(all(is_face_row(dimension, row) and row[0] == points for row in answer))

    def test_polytopes_are_among_them(self):
        for name, value in some_polytopes().items():
            self.assertIn(face_row(value), rows_with(value[0], len(value[1])), name)
        for dimension, points, width in ((3, 6, 3), (4, 7, 3), (4, 8, 4), (5, 8, 3)):
            rows = rows_with(dimension, points)
            for value in random_values(16, dimension, points, width, 40):
                if is_polytope(value):
                    self.assertIn(face_row(value), rows)


class Bounds(unittest.TestCase):
    def test_by_hand(self):
        self.assertEqual(most_row(4, 7), (7, 21, 28, 14))
        self.assertEqual(least_row(4, 7), (7, 18, 22, 11))
        self.assertEqual(most_row(points=8, dimension=4), (8, 28, 40, 20))
        self.assertEqual(least_row(points=8, dimension=4), (8, 22, 28, 14))
        self.assertEqual(most_row(2, 5), (5, 5))
        self.assertEqual(most_row(7, 11), (11, 55, 165, 315, 371, 245, 70))

    def test_as_defined(self):
        for dimension, points in EVERY:
            half = dimension // 2
            more = points - dimension - 1
            most = (1,) + tuple(comb(points - dimension - 2 + at, at) for at in range(1, half + 1))
            self.assertEqual(g_row(dimension, most_row(dimension, points)), most)
            self.assertEqual(g_row(dimension, least_row(dimension, points)), (1, more) + (0,) * (half - 1))
            self.assertTrue(is_plain(most_row(dimension, points)) and is_plain(least_row(dimension, points)))

    def test_all_rows_are_between(self):
        for dimension, points in EVERY:
            rows = rows_with(dimension, points)
            self.assertEqual(most_row(dimension, points), tuple(max(numbers) for numbers in zip(*rows)))
            self.assertEqual(least_row(dimension, points), tuple(min(numbers) for numbers in zip(*rows)))
            self.assertIn(most_row(dimension, points), rows)
            self.assertIn(least_row(dimension, points), rows)

    def test_polytopes(self):
        for name, value in some_polytopes().items():
            dimension, points = value[0], len(value[1])
            most = most_row(dimension, points)
            if name.startswith("cyclic"):
                self.assertEqual(face_row(value), most)
            for at, number in enumerate(face_row(value)):
                self.assertLessEqual(number, most[at])
                self.assertGreaterEqual(number, least_row(dimension, points)[at])
        for dimension in range(2, 8):
            for more in range(4):
                row = face_row(stacked(dimension, more))
                self.assertEqual(row, least_row(dimension, dimension + 1 + more))

    def test_neighbourly(self):
        for name, value in some_polytopes().items():
            dimension, points = value[0], len(value[1])
            half = dimension // 2
            most = face_row(value)[:half] == most_row(dimension, points)[:half]
            lots = [tuple(range(half)), tuple(range(points - half, points)), tuple(range(0, 2 * half, 2))]
            if most:
                self.assertTrue(all(is_face(value, lot) for lot in lots if lot[-1] < points), name)


class WrongArguments(unittest.TestCase):
    def same(self, error, calls, names, *arguments):
        found = []
        for call in calls:
            caught = raised(error, call, *arguments)
            self.assertEqual(list(vars(caught)), ["given"])
            named = dict(reversed(list(zip(names, arguments))))
            self.assertIs(raised(error, call, **named).given, caught.given)
            found.append(caught.given)
        self.assertTrue(all(one is found[0] for one in found))
        return found[0]

    def of_rows(self, error, dimension, row):
        return self.same(error, (why_none, is_face_row), ("dimension", "row"), dimension, row)

    def of_points(self, dimension, points):
        calls = (rows_with, most_row, least_row)
        return self.same(InvalidNumber, calls, ("dimension", "points"), dimension, points)

    def test_dimension(self):
        for dimension in NO_NUMBERS + (1, 8, 0, -2, "2"):
            for other in ((6, 12, 8), (4, 4), None, (), 7, 5, "x"):
                self.assertIs(self.of_rows(InvalidNumber, dimension, other), dimension)
                self.assertIs(self.of_points(dimension, other), dimension)

    def test_points(self):
        for dimension in range(2, 8):
            for points in NO_NUMBERS + (dimension, dimension + 5, 0, -1, -dimension):
                if not (type(points) is int and dimension + 1 <= points <= dimension + 4):
                    self.assertIs(self.of_points(dimension, points), points)

    def test_rows(self):
        for dimension in range(2, 8):
            right = least_row(dimension, dimension + 2)
            for row in JUNK + (list(right), right[:-1], right + (0,), set(right), str(right), (right,),
                               (dimension + 1,) * (dimension - 1), (dimension + 1,) * (dimension + 1)):
                self.assertIs(self.of_rows(InvalidRow, dimension, row), row)
            for at in range(dimension):
                for wrong in (None, True, False, "7", (7,), [7], LIMIT + 1, -LIMIT - 1):
                    row = right[:at] + (wrong,) + right[at + 1:]
                    self.assertIs(self.of_rows(InvalidRow, dimension, row), row)

    def test_numbers_of_points_in_rows(self):
        for dimension in range(2, 8):
            for first in (dimension, dimension + 5, 0, -1, 1, LIMIT, -LIMIT, 20):
                row = (first,) + (9,) * (dimension - 1)
                self.assertIs(self.of_rows(InvalidRow, dimension, row), row)
            for first in range(dimension + 1, dimension + 5):
                row = (first,) + (LIMIT,) * (dimension - 1)
                self.assertEqual(why_none(dimension, row), bar_by_definition(dimension, row))
        row = (9, 30, 42, 21)
        self.assertIs(self.of_rows(InvalidRow, 4, row), row)


if __name__ == "__main__":
    unittest.main()
