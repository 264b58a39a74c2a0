"""Promises [29] and [30]: blocks, stacked polytopes and volumes; [4], [5] and [6] for these functions."""

import random
import unittest
from fractions import Fraction
from itertools import combinations
from math import factorial

from facenumbers.errors import InvalidFace, InvalidNumber, InvalidPolytope
from facenumbers.facerows import rows_with
from facenumbers.making import made
from facenumbers.polytopes import facets_of
from facenumbers.rows import face_row, g_row
from facenumbers.stacking import blocks_of, is_stacked, volume, volume_of
from tests.examples import (
    CROSS, JUNK, OCTA, SQUARE, TOPS, bipyramid, cross_polytope, cyclic, determinant, faces_by_definition, is_plain,
    long_polytope, pointed, rank, ratio, sheared, shuffled, simplex, some_polytopes, stacked, stretched, worths,
)
from tests.test_faces import NO_POLYTOPES, raised

NO_NUMBERS = (None, True, False, "1", "", b"1", (), (1,), [1], {}, {1: 1}, {1}, 10 ** 40, -10 ** 40, 0, -1, object())


def many_polytopes():
    found = dict(some_polytopes())
    for dimension, points in ((4, 7), (4, 8), (5, 8), (6, 9), (6, 10), (7, 11)):
        for row in rows_with(dimension, points)[::5]:
            found[f"made {dimension} {row}"] = made(dimension, row)
    return found


def blocks_by_definition(value, number):
    faces = faces_by_definition(facets_of(value))
    found = []
    for lot in combinations(range(len(value[1])), value[0] + 1):
        parts = [part for many in range(value[0] - number + 2) for part in combinations(lot, many)]
        if all(part in faces for part in parts):
            found.append(lot)
    return tuple(found)


def simplex_by_definition(value, lot):
    points = [worths(value)[index] for index in lot]
    ways = [[one - two for one, two in zip(point, points[0])] for point in points[1:]]
    return abs(determinant(ways)) / factorial(value[0])


def volume_by_definition(value):
    return sum(simplex_by_definition(value, (0,) + facet) for facet in facets_of(value) if 0 not in facet)


class Blocks(unittest.TestCase):
    def test_by_hand(self):
        self.assertEqual(blocks_of(TOPS, 2), ((0, 1, 2, 3, 4), (0, 1, 2, 3, 5)))
        self.assertEqual(blocks_of(number=1, polytope=TOPS), ())
        self.assertEqual(blocks_of(CROSS, 2), ())
        self.assertEqual(blocks_of(OCTA, 1), ())
        self.assertEqual(blocks_of(SQUARE, 1), ())
        for dimension in range(2, 8):
            for number in range(1, dimension // 2 + 1):
                self.assertEqual(blocks_of(simplex(dimension), number), (tuple(range(dimension + 1)),))

    def test_as_defined(self):
        kinds = set()
        for name, value in many_polytopes().items():
            for number in range(1, value[0] // 2 + 1):
                answer = blocks_of(value, number)
                self.assertTrue(is_plain(answer))
                self.assertEqual(answer, blocks_by_definition(value, number), (name, number))
                self.assertEqual(list(answer), sorted(set(answer)))
                kinds.add((number, len(answer) > 0))
        self.assertEqual(kinds, {(number, some) for number in (1, 2, 3) for some in (True, False)})

    def test_some_blocks_that_do_not_tile(self):
        found = 0
        for value in many_polytopes().values():
            for number in range(1, value[0] // 2 + 1):
                if blocks_of(value, number) and not is_stacked(value, number):
                    found += 1
        self.assertGreater(found, 0)

    def test_stacked_polytopes(self):
        for dimension in range(4, 8):
            for more in range(4):
                self.assertEqual(len(blocks_of(stacked(dimension, more), 2)), more + 1)
            for number in range(1, dimension // 2 + 1):
                self.assertIs(is_stacked(stacked(dimension, 3), number), number > 1)

    def test_in_another_order(self):
        for seed in range(3):
            for value in (TOPS, stacked(5, 2), cyclic(6, 8), bipyramid(6)):
                other = shuffled(value, seed)
                for number in range(1, other[0] // 2 + 1):
                    self.assertEqual(blocks_of(other, number), blocks_by_definition(other, number))


class Tilings(unittest.TestCase):
    def test_by_hand(self):
        self.assertIs(is_stacked(TOPS, 2), True)
        self.assertIs(is_stacked(number=1, polytope=TOPS), False)
        self.assertIs(is_stacked(CROSS, 2), False)
        self.assertIs(is_stacked(OCTA, 1), False)
        self.assertIs(is_stacked(simplex(7), 3), True)
        self.assertIs(is_stacked(cyclic(6, 8), 3), False)

    def test_the_g_row(self):
        for name, value in many_polytopes().items():
            g = g_row(value[0], face_row(value))
            for number in range(1, value[0] // 2 + 1):
                self.assertIs(is_stacked(value, number), g[number] == 0, name)

    def test_the_blocks_volumes_add_up_exactly_if_it_is_stacked(self):
        kinds = set()
        for name, value in many_polytopes().items():
            whole = Fraction(*volume(value))
            for number in range(1, value[0] // 2 + 1):
                volumes = [Fraction(*volume_of(value, lot)) for lot in blocks_of(value, number)]
                self.assertTrue(all(part > 0 for part in volumes))
                self.assertLessEqual(sum(volumes), whole)
                self.assertIs(is_stacked(value, number), sum(volumes) == whole, (name, number))
                kinds.add((value[0], number, is_stacked(value, number)))
        self.assertLessEqual({(dimension, number, said) for dimension in range(2, 8)
                              for number in range(1, dimension // 2 + 1) for said in (True, False)}, kinds)

    def test_numbers_of_40_figures(self):
        for dimension, points in ((4, 6), (4, 7), (5, 7)):
            value = long_polytope(30, dimension, points)
            whole = Fraction(*volume(value))
            self.assertEqual(whole, volume_by_definition(value))
            for number in (1, 2):
                volumes = [Fraction(*volume_of(value, lot)) for lot in blocks_of(value, number)]
                self.assertIs(is_stacked(value, number), sum(volumes) == whole)

    def test_more_than_one_from_above(self):
        # 2-stacked, but not 1-stacked: the blocks for 3 tile, those for 2 do not.
        for row in rows_with(6, 9):
            value = made(6, row)
            g = g_row(6, row)
            for number in (1, 2, 3):
                total = sum(Fraction(*volume_of(value, lot)) for lot in blocks_of(value, number))
                self.assertEqual(total == Fraction(*volume(value)), g[number] == 0)


class Volumes(unittest.TestCase):
    def test_by_hand(self):
        self.assertEqual(volume(SQUARE), (2, 1))
        self.assertEqual(volume(polytope=OCTA), (4, 3))
        self.assertEqual(volume(TOPS), (1, 12))
        self.assertEqual(volume(CROSS), (2, 3))
        for dimension in range(2, 8):
            self.assertEqual(volume(simplex(dimension)), (1, factorial(dimension)))
        self.assertEqual(volume(pointed(2, [["1/2", 0], [0, "1/3"], [0, 0]])), (1, 12))
        for dimension in (2, 3, 4):
            expected = ratio(Fraction(2 ** dimension, factorial(dimension)))
            self.assertEqual(volume(cross_polytope(dimension)), expected)

    def test_as_defined(self):
        for name, value in many_polytopes().items():
            answer = volume(value)
            self.assertTrue(is_plain(answer))
            self.assertEqual(answer, ratio(volume_by_definition(value)), name)

    def test_moved_and_stretched(self):
        for name, value in some_polytopes().items():
            whole = Fraction(*volume(value))
            for factor, way in ((Fraction(3, 7), Fraction(-5, 2)), (-2, 10 ** 9), (Fraction(-1, 10 ** 6), 1)):
                other = stretched(value, factor, way)
                self.assertEqual(Fraction(*volume(other)), whole * abs(factor) ** value[0], name)
            self.assertEqual(Fraction(*volume(sheared(value, Fraction(9, 4)))), whole)

    def test_in_any_order(self):
        for name, value in many_polytopes().items():
            for seed in range(2):
                self.assertEqual(volume(shuffled(value, seed)), volume(value), name)

    def test_simplices(self):
        for value in (SQUARE, OCTA, TOPS, CROSS, cyclic(5, 8), stacked(6, 2)):
            for lot in combinations(range(len(value[1])), value[0] + 1):
                answer = volume_of(value, lot)
                self.assertTrue(is_plain(answer))
                self.assertEqual(answer, ratio(simplex_by_definition(value, lot)))
        self.assertEqual(volume_of(face=(0, 1, 2, 3, 4), polytope=TOPS), (1, 24))
        self.assertEqual(volume_of(OCTA, (0, 1, 2, 4)), (1, 3))

    def test_flat_sets(self):
        self.assertEqual(volume_of(OCTA, (0, 1, 2, 3)), (0, 1))
        self.assertEqual(volume_of(OCTA, (2, 3, 4, 5)), (0, 1))
        found = 0
        for value in (OCTA, CROSS, cross_polytope(2), shuffled(CROSS, 3)):
            for lot in combinations(range(len(value[1])), value[0] + 1):
                flat = rank([[Fraction(1)] + worths(value)[index] for index in lot]) <= value[0]
                found += flat
                self.assertIs(volume_of(value, lot) == (0, 1), flat)
        self.assertGreater(found, 20)

    def test_numbers_of_40_figures(self):
        for dimension in (2, 3, 5):
            value = long_polytope(31, dimension, dimension + 1)
            self.assertEqual(volume(value), ratio(volume_by_definition(value)))
            self.assertEqual(volume_of(value, tuple(range(dimension + 1))), volume(value))

    def test_equal_calls(self):
        self.assertEqual(volume(TOPS), volume((4, tuple(list(TOPS[1])))))


class WrongArguments(unittest.TestCase):
    def test_no_polytope(self):
        for value in NO_POLYTOPES:
            for call, rest in ((blocks_of, (1,)), (is_stacked, (1,)), (volume, ()), (volume_of, ((0, 1, 2),)),
                               (blocks_of, (None,)), (is_stacked, (0,)), (volume_of, (5,))):
                error = raised(InvalidPolytope, call, value, *rest)
                self.assertIs(error.given, value)
                self.assertEqual(list(vars(error)), ["given"])
        self.assertEqual(raised(InvalidPolytope, blocks_of, number=None, polytope=5).given, 5)
        self.assertEqual(raised(InvalidPolytope, is_stacked, number=None, polytope=5).given, 5)
        self.assertEqual(raised(InvalidPolytope, volume_of, face=None, polytope=5).given, 5)

    def test_no_number(self):
        for dimension in range(2, 8):
            for value in (simplex(dimension), cyclic(dimension, dimension + 3)):
                for number in NO_NUMBERS + (dimension // 2 + 1, dimension):
                    for call in (blocks_of, is_stacked):
                        error = raised(InvalidNumber, call, value, number)
                        self.assertIs(error.given, number)
                        self.assertEqual(list(vars(error)), ["given"])
                        self.assertIs(raised(InvalidNumber, call, number=number, polytope=value).given, number)
                for number in range(1, dimension // 2 + 1):
                    self.assertIn(is_stacked(value, number), (True, False))

    def no_set(self, value, face):
        error = raised(InvalidFace, volume_of, value, face)
        self.assertIs(error.given, face)
        self.assertEqual(list(vars(error)), ["given"])
        self.assertIs(raised(InvalidFace, volume_of, face=face, polytope=value).given, face)

    def test_no_set(self):
        for face in JUNK + ([0, 1, 2, 3], "0123", {0, 1, 2, 3}, range(4), (3, 2, 1, 0), (0, 0, 1, 2), (0, 1, 2, 6),
                            (-1, 0, 1, 2), (False, 1, 2, 3), (0, True, 2, 3), (0, 1, 2, "3"), (0, 1, 2, None),
                            (0, 1, 2, (3,)), (0, 1, 2, 10 ** 50), ((0, 1, 2, 3),), (0, 1, 3, 2)):
            self.no_set(OCTA, face)

    def test_sets_of_another_size(self):
        for dimension in range(2, 8):
            value = cyclic(dimension, dimension + 4)
            for many in range(dimension + 5):
                face = tuple(range(many))
                if many == dimension + 1:
                    self.assertNotEqual(volume_of(value, face), (0, 1))
                else:
                    self.no_set(value, face)
            self.no_set(simplex(dimension), tuple(range(dimension)))
            self.no_set(simplex(dimension), tuple(range(dimension + 2)))


if __name__ == "__main__":
    unittest.main()
