"""Promise [9]: facets, inequalities, faces and missing faces; [4] and [5] for these functions."""

import random
import unittest
from fractions import Fraction
from itertools import combinations
from math import comb, gcd

from facenumbers.errors import InvalidFace, InvalidNumber, InvalidPolytope
from facenumbers.polytopes import faces_of, facets_of, inequality_of, is_face, missing_faces
from tests.examples import (
    CROSS, JUNK, OCTA, SQUARE, TOPS, cross_polytope, cyclic, faces_by_definition, facets_by_definition, is_plain,
    missing_by_definition, pointed, simplex, some_polytopes, worths,
)

NO_POLYTOPES = JUNK + (
    list(OCTA), (2, OCTA[1]), (3, OCTA[1][:4]), (True, SQUARE[1]), (3, list(OCTA[1])), (2, SQUARE[1] + SQUARE[1][:1]),
    cyclic(2, 7), simplex(8), (2, (((2, 2), (0, 1)),) + SQUARE[1][1:]),
)
NO_SETS_OF_OCTA = JUNK[:6] + (
    "", b"", [], {}, [0, 1], [0, 2, 4], "024", {0, 2, 4}, {0: 2}, range(3), (1, 0), (4, 2, 0), (0, 0), (0, 2, 2),
    (0, 2, 4, 4), (-1,), (-1, 0), (-6, 2, 4), (6,), (0, 2, 6), (0, 1, 2, 3, 4, 5, 6), (10 ** 50,), (True,),
    (False, 2, 4), (0, True), (True, 2, 4), (None,), ("0",), (0, "2", 4), ((0, 2, 4),), ((0,), (2,)), (0, (2,)),
    (0, None, 4),
)


def raised(error, call, *arguments, **named):
    try:
        call(*arguments, **named)
    except error as caught:
        return caught
    raise AssertionError(f"{call.__name__} raised nothing")


class NoPolytope(unittest.TestCase):
    def test_for_each_function(self):
        for value in NO_POLYTOPES:
            for call, rest in ((facets_of, ()), (missing_faces, ()), (inequality_of, ((0, 1),)), (is_face, ((),)),
                               (faces_of, (1,))):
                self.assertIs(raised(InvalidPolytope, call, value, *rest).given, value)

    def test_ahead_of_the_other_argument(self):
        for wrong in (None, (1, 0), -1, "x"):
            for call in (inequality_of, is_face, faces_of):
                self.assertEqual(raised(InvalidPolytope, call, 5, wrong).given, 5)
        self.assertEqual(raised(InvalidPolytope, inequality_of, facet=None, polytope=6).given, 6)
        self.assertEqual(raised(InvalidPolytope, is_face, face=None, polytope=6).given, 6)
        self.assertEqual(raised(InvalidPolytope, faces_of, many=None, polytope=6).given, 6)


class Facets(unittest.TestCase):
    def test_by_hand(self):
        self.assertEqual(facets_of(SQUARE), ((0, 1), (0, 3), (1, 2), (2, 3)))
        self.assertEqual(facets_of(polytope=OCTA), ((0, 2, 4), (0, 2, 5), (0, 3, 4), (0, 3, 5), (1, 2, 4), (1, 2, 5),
                                                    (1, 3, 4), (1, 3, 5)))
        self.assertEqual(facets_of(TOPS)[:3], ((0, 1, 2, 4), (0, 1, 2, 5), (0, 1, 3, 4)))

    def test_simplices(self):
        for dimension in range(2, 8):
            self.assertEqual(facets_of(simplex(dimension)), tuple(combinations(range(dimension + 1), dimension)))

    def test_cyclic_polytopes_by_gale_evenness(self):
        for dimension in range(2, 8):
            for many in range(dimension + 1, dimension + 5):
                expected = []
                for lot in combinations(range(many), dimension):
                    others = [index for index in range(many) if index not in lot]
                    even = [sum(one < index < two for index in lot) % 2 == 0 for one, two in combinations(others, 2)]
                    if all(even):
                        expected.append(lot)
                self.assertEqual(facets_of(cyclic(dimension, many)), tuple(expected))

    def test_as_defined(self):
        for name, value in some_polytopes().items():
            if value[0] <= 5:
                self.assertEqual(facets_of(value), facets_by_definition(value), name)

    def test_plain_and_ascending(self):
        for name, value in some_polytopes().items():
            facets = facets_of(value)
            self.assertTrue(is_plain(facets), name)
            self.assertEqual(list(facets), sorted(set(facets)))
            self.assertEqual(facets, facets_of(value))

    def test_moved_and_stretched(self):
        for dimension, points in (OCTA, CROSS, TOPS, cyclic(5, 8)):
            moved = [[Fraction(*number) * 7 / 3 - Fraction(5, 11) for number in point] for point in points]
            self.assertEqual(facets_of(pointed(dimension, moved)), facets_of((dimension, points)))


class Inequalities(unittest.TestCase):
    def test_by_hand(self):
        self.assertEqual(inequality_of(OCTA, (0, 2, 5)), ((1, 1, -1), 1))
        self.assertEqual(inequality_of(OCTA, (1, 3, 5)), ((-1, -1, -1), 1))
        self.assertEqual(inequality_of(facet=(0, 1), polytope=simplex(2)), ((0, -1), 0))
        self.assertEqual(inequality_of(simplex(2), (0, 2)), ((-1, 0), 0))
        self.assertEqual(inequality_of(simplex(2), (1, 2)), ((1, 1), 1))
        halves = pointed(2, [["1/2", 0], ["1/2", 1], [3, "1/3"]])
        self.assertEqual(inequality_of(halves, (0, 1)), ((-2, 0), -1))
        self.assertEqual(inequality_of(pointed(2, [[2, 0], [0, 2], [0, 0]]), (0, 1)), ((1, 1), 2))
        self.assertEqual(inequality_of(pointed(2, [[4, 0], [0, 6], [0, 0]]), (0, 1)), ((3, 2), 12))

    def test_as_defined(self):
        for name, value in some_polytopes().items():
            points = worths(value)
            for facet in facets_of(value):
                answer = inequality_of(value, facet)
                self.assertTrue(is_plain(answer))
                factors, bound = answer
                self.assertEqual(len(factors), value[0])
                self.assertEqual(gcd(bound, *factors), 1, name)
                for index, point in enumerate(points):
                    total = sum(one * two for one, two in zip(factors, point))
                    if index in facet:
                        self.assertEqual(total, bound)
                    else:
                        self.assertLess(total, bound)

    def test_what_lies_in_the_hull_keeps_them_all(self):
        source = random.Random(9)
        for value in (SQUARE, OCTA, CROSS, TOPS, cyclic(5, 9)):
            points = worths(value)
            for _ in range(10):
                parts = [source.randint(0, 9) for _ in points]
                parts[0] += 1
                mixed = [Fraction(sum(part * point[at] for part, point in zip(parts, points)), sum(parts))
                         for at in range(value[0])]
                self.assertTrue(self.kept(value, mixed))

    def test_what_lies_outside_breaks_one(self):
        for value in (SQUARE, OCTA, CROSS, TOPS, cyclic(5, 9)):
            points = worths(value)
            middle = [sum(numbers) / len(points) for numbers in zip(*points)]
            for point in points:
                beyond = [one + (one - two) / 10 ** 6 for one, two in zip(point, middle)]
                self.assertTrue(self.kept(value, point))
                self.assertFalse(self.kept(value, beyond))

    def kept(self, value, point):
        told = [inequality_of(value, facet) for facet in facets_of(value)]
        return all(sum(one * two for one, two in zip(factors, point)) <= bound for factors, bound in told)

    def test_no_facet(self):
        for facet in NO_SETS_OF_OCTA + ((), (0,), (0, 2), (0, 1, 2), (0, 2, 3), (0, 2, 4, 5), tuple(range(6))):
            error = raised(InvalidFace, inequality_of, OCTA, facet)
            self.assertIs(error.given, facet)
            self.assertEqual(list(vars(error)), ["given"])
        # Equal to facets for Python, but none.
        for facet in ((False, 2, 4), (True, 3, 5), [0, 2, 4], (4, 2, 0)):
            self.assertIs(raised(InvalidFace, inequality_of, OCTA, facet).given, facet)

    def test_numbers_of_40_figures(self):
        most = 10 ** 40 - 1
        value = (2, (((0, 1), (0, 1)), ((most, 1), (0, 1)), ((0, 1), (1, most))))
        self.assertEqual(inequality_of(value, (1, 2)), ((1, most * most), most))


class Faces(unittest.TestCase):
    def test_by_hand(self):
        for face in ((), (0,), (5,), (0, 2), (2, 4), (0, 3, 5)):
            self.assertIs(is_face(OCTA, face), True, face)
        for face in ((0, 1), (2, 3), (4, 5), (0, 1, 2), (0, 2, 4, 5), (0, 1, 2, 3, 4, 5)):
            self.assertIs(is_face(OCTA, face), False, face)
        self.assertIs(is_face(face=(4, 5), polytope=TOPS), False)
        self.assertIs(is_face(TOPS, (0, 1, 2, 3)), False)
        self.assertIs(is_face(TOPS, (0, 1, 2, 4)), True)

    def test_all_sets(self):
        for value in (SQUARE, OCTA, CROSS, TOPS, simplex(2), simplex(3), cyclic(3, 6), cyclic(4, 6)):
            faces = faces_by_definition(facets_by_definition(value))
            points = len(value[1])
            for many in range(points + 1):
                for lot in combinations(range(points), many):
                    self.assertIs(is_face(value, lot), lot in faces, (value, lot))

    def test_no_set(self):
        for face in NO_SETS_OF_OCTA:
            error = raised(InvalidFace, is_face, OCTA, face)
            self.assertIs(error.given, face)
            self.assertEqual(list(vars(error)), ["given"])

    def test_the_bound_is_how_many_points_there_are(self):
        for value in (SQUARE, OCTA, simplex(7), cyclic(7, 11)):
            last = len(value[1]) - 1
            self.assertIs(is_face(value, (last,)), True)
            self.assertIs(is_face(value, tuple(range(last + 1))), False)
            for face in ((last + 1,), (0, last + 1), (last, last)):
                self.assertIs(raised(InvalidFace, is_face, value, face).given, face)


class FacesOfSize(unittest.TestCase):
    def test_by_hand(self):
        self.assertEqual(faces_of(SQUARE, 0), ((),))
        self.assertEqual(faces_of(SQUARE, 1), ((0,), (1,), (2,), (3,)))
        self.assertEqual(faces_of(many=2, polytope=SQUARE), ((0, 1), (0, 3), (1, 2), (2, 3)))
        self.assertEqual(faces_of(OCTA, 2)[:5], ((0, 2), (0, 3), (0, 4), (0, 5), (1, 2)))

    def test_as_defined(self):
        for name, value in some_polytopes().items():
            facets = facets_of(value)
            faces = faces_by_definition(facets)
            for many in range(value[0] + 1):
                answer = faces_of(value, many)
                self.assertTrue(is_plain(answer))
                self.assertEqual(list(answer), sorted(face for face in faces if len(face) == many), (name, many))
            self.assertEqual(answer, facets)

    def test_neighbourly(self):
        for many in range(4):
            self.assertEqual(len(faces_of(cyclic(7, 11), many)), comb(11, many))

    def test_no_number(self):
        for value in (SQUARE, OCTA, CROSS, cyclic(7, 9)):
            for many in (-1, value[0] + 1, 10 ** 30, -10 ** 30):
                self.assertEqual(raised(InvalidNumber, faces_of, value, many).given, many)
        for many in (None, True, False, "1", "", (1,), [1], (), b"1", {1: 1}, OCTA):
            error = raised(InvalidNumber, faces_of, OCTA, many)
            self.assertIs(error.given, many)
            self.assertEqual(list(vars(error)), ["given"])


class MissingFaces(unittest.TestCase):
    def test_by_hand(self):
        self.assertEqual(missing_faces(SQUARE), ((0, 2), (1, 3)))
        self.assertEqual(missing_faces(polytope=OCTA), ((0, 1), (2, 3), (4, 5)))
        self.assertEqual(missing_faces(TOPS), ((0, 1, 2, 3), (4, 5)))
        for dimension in range(2, 8):
            self.assertEqual(missing_faces(simplex(dimension)), (tuple(range(dimension + 1)),))

    def test_cross_polytopes(self):
        for dimension in (2, 3, 4):
            expected = tuple((2 * at, 2 * at + 1) for at in range(dimension))
            self.assertEqual(missing_faces(cross_polytope(dimension)), expected)

    def test_as_defined(self):
        for name, value in some_polytopes().items():
            answer = missing_faces(value)
            self.assertTrue(is_plain(answer))
            if value[0] <= 5 or len(value[1]) <= 9:
                self.assertEqual(answer, missing_by_definition(facets_of(value), len(value[1])), name)

    def test_neighbourly(self):
        for lot in missing_faces(cyclic(6, 10)):
            self.assertEqual(len(lot), 4)


if __name__ == "__main__":
    unittest.main()
