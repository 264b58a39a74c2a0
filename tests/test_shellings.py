"""Promises [27] and [28]: restrictions, shellings and line orderings; [4], [5] and [6] for these functions."""

import random
import unittest
from fractions import Fraction
from itertools import permutations

from facenumbers.errors import InvalidDirection, InvalidOrdering, InvalidPolytope, NotGeneral
from facenumbers.facerows import rows_with
from facenumbers.making import made
from facenumbers.polytopes import facets_of, inequality_of
from facenumbers.rows import face_row, h_row
from facenumbers.shellings import is_shelling, line_ordering, restrictions
from tests.examples import (
    CROSS, JUNK, OCTA, SQUARE, TOPS, cyclic, faces_by_definition, is_plain, long_polytope, pointed, random_told_ratio,
    ratio, sheared, shuffled, simplex, some_polytopes, stacked, with_number, worths,
)
from tests.test_faces import NO_POLYTOPES, raised
from tests.test_supports import WRONG_RATIOS

ONE, NONE, LESS = (1, 1), (0, 1), (-1, 1)
WAY = ((4, 1), (2, 1), (1, 1))
MOST = 10 ** 40 - 1


def quotients_by_definition(value, direction):
    points = worths(value)
    middle = [sum(numbers) / len(points) for numbers in zip(*points)]
    way = [Fraction(*number) for number in direction]
    found = {}
    for facet in facets_of(value):
        factors, bound = inequality_of(value, facet)
        above = bound - sum(one * two for one, two in zip(factors, middle))
        assert above > 0
        found[facet] = sum(one * two for one, two in zip(factors, way)) / above
    return found


def ordering_by_definition(value, direction):
    """None where two quotients are alike."""
    found = quotients_by_definition(value, direction)
    if len(set(found.values())) < len(found):
        return None
    return tuple(sorted(found, key=lambda facet: -found[facet]))


def restrictions_by_definition(ordering):
    found = []
    for at, facet in enumerate(ordering):
        lot = []
        for index in facet:
            others = set(facet) - {index}
            if any(others <= set(ahead) for ahead in ordering[:at]):
                lot.append(index)
        found.append(tuple(lot))
    return tuple(found)


def is_shelling_by_definition(ordering):
    told = restrictions_by_definition(ordering)
    for at in range(1, len(ordering)):
        for ahead in ordering[:at]:
            if not set(told[at]) - (set(ordering[at]) & set(ahead)):
                return False
    return True


def random_direction(source, dimension, width):
    return tuple(ratio(Fraction(source.randint(-width, width), source.randint(1, width))) for _ in range(dimension))


def exchanged(ordering, one, two):
    found = list(ordering)
    found[one], found[two] = found[two], found[one]
    return tuple(found)


class LineOrderings(unittest.TestCase):
    def test_by_hand(self):
        way = line_ordering(OCTA, WAY)
        self.assertEqual(way, ((0, 2, 4), (0, 2, 5), (0, 3, 4), (0, 3, 5), (1, 2, 4), (1, 2, 5), (1, 3, 4), (1, 3, 5)))
        self.assertEqual(line_ordering(direction=((2, 1), (1, 1)), polytope=SQUARE), ((0, 1), (0, 3), (1, 2), (2, 3)))
        self.assertEqual(line_ordering(SQUARE, ((1, 1), (-2, 1))), ((0, 3), (2, 3), (0, 1), (1, 2)))
        self.assertEqual(line_ordering(OCTA, ((-4, 1), (-2, 1), (-1, 1))), way[::-1])

    def test_as_defined(self):
        source = random.Random(27)
        kinds = set()
        for name, value in some_polytopes().items():
            for width in (2, 9, 10 ** 12):
                direction = random_direction(source, value[0], width)
                expected = ordering_by_definition(value, direction)
                kinds.add(expected is None)
                if expected is None:
                    self.assertEqual(vars(raised(NotGeneral, line_ordering, value, direction)), {})
                else:
                    answer = line_ordering(value, direction)
                    self.assertTrue(is_plain(answer))
                    self.assertEqual(answer, expected, (name, direction))
        self.assertEqual(kinds, {True, False})

    def test_small_and_great_numbers(self):
        for value in (OCTA, sheared(CROSS, Fraction(1, 3)), cyclic(3, 6), TOPS):
            for numbers in ((MOST, 1, 7, 10 ** 20), ("1/2", f"1/{MOST}", "-3/5", 2), (1, f"{MOST}/{MOST - 1}", 2, 5),
                            (f"1/{MOST}", f"2/{MOST}", f"5/{MOST}", f"11/{MOST}"), (-MOST, MOST - 2, 3, -8)):
                self.as_defined_or_not_general(value, pointed(value[0], [numbers[:value[0]]])[1][0])

    def test_quotients_that_are_near_to_each_other(self):
        # The sides differ by little more than nothing, and all of them are told apart.
        for under in (10 ** 9, 10 ** 39, MOST):
            self.assertEqual(line_ordering(SQUARE, ((1, 1), (1, under))), ((0, 1), (0, 3), (1, 2), (2, 3)))
            self.assertEqual(line_ordering(SQUARE, ((1, 1), (-1, under))), ((0, 3), (0, 1), (2, 3), (1, 2)))
            self.assertEqual(line_ordering(SQUARE, ((under, under - 1), ONE)), ((0, 1), (0, 3), (1, 2), (2, 3)))

    def test_numbers_of_40_figures(self):
        source = random.Random(28)
        for dimension, points in ((2, 6), (3, 6), (4, 7)):
            value = long_polytope(29, dimension, points)
            direction = tuple(random_told_ratio(source) for _ in range(dimension))
            self.assertEqual(line_ordering(value, direction), ordering_by_definition(value, direction))

    def test_noughts_alone(self):
        for value in some_polytopes().values():
            raised(NotGeneral, line_ordering, value, (NONE,) * value[0])

    def test_along_coordinates(self):
        for value in (SQUARE, OCTA, CROSS):
            for at in range(value[0]):
                raised(NotGeneral, line_ordering, value, with_number((NONE,) * value[0], at, ONE))
        raised(NotGeneral, line_ordering, OCTA, (ONE, ONE, NONE))
        raised(NotGeneral, line_ordering, OCTA, ((3, 1), (2, 1), (1, 1)))
        raised(NotGeneral, line_ordering, TOPS, (NONE, NONE, NONE, ONE))
        for value in (cyclic(2, 6), cyclic(3, 6), simplex(3), stacked(4, 2), sheared(OCTA, Fraction(2, 7))):
            for at in range(value[0]):
                self.as_defined_or_not_general(value, with_number((NONE,) * value[0], at, ONE))

    def test_along_edges(self):
        for value in (SQUARE, OCTA, cyclic(2, 5), cyclic(3, 6), TOPS, stacked(3, 3)):
            points = worths(value)
            for one in range(len(points)):
                for two in range(one):
                    way = tuple(ratio(left - right) for left, right in zip(points[one], points[two]))
                    self.as_defined_or_not_general(value, way)

    def as_defined_or_not_general(self, value, direction):
        expected = ordering_by_definition(value, direction)
        if expected is None:
            raised(NotGeneral, line_ordering, value, direction)
        else:
            self.assertEqual(line_ordering(value, direction), expected)

    def test_a_parallel_facet(self):
        # T is 0 for two sides that are parallel to the direction, or only for one.
        for way in ((ONE, ONE), (LESS, LESS), (ONE, LESS)):
            raised(NotGeneral, line_ordering, SQUARE, way)
        triangle = pointed(2, [[0, 0], [4, 0], [0, 1]])
        self.assertEqual(line_ordering(triangle, (ONE, NONE)), ((1, 2), (0, 1), (0, 2)))
        self.assertEqual(line_ordering(triangle, (NONE, LESS)), ((0, 1), (0, 2), (1, 2)))
        self.assertEqual(quotients_by_definition(triangle, (NONE, LESS))[(0, 2)], 0)
        right = pointed(2, [[0, 0], [2, 0], [2, 1], [0, 3]])
        self.as_defined_or_not_general(right, (NONE, ONE))
        raised(NotGeneral, line_ordering, right, (NONE, ONE))

    def test_points_in_another_order(self):
        for seed in range(4):
            value = shuffled(stacked(3, 3), seed)
            direction = ((7, 3), (-5, 11), (2, 13))
            self.assertEqual(line_ordering(value, direction), ordering_by_definition(value, direction))

    def test_they_are_shellings(self):
        source = random.Random(30)
        for name, value in some_polytopes().items():
            direction = random_direction(source, value[0], 10 ** 9)
            answer = line_ordering(value, direction)
            self.assertIs(is_shelling(value, answer), True, name)
            self.assertIs(is_shelling(value, answer[::-1]), True, name)


class Restrictions(unittest.TestCase):
    def test_by_hand(self):
        way = line_ordering(OCTA, WAY)
        expected = ((), (5,), (3,), (3, 5), (1,), (1, 5), (1, 3), (1, 3, 5))
        self.assertEqual(restrictions(OCTA, way), expected)
        self.assertEqual(restrictions(ordering=facets_of(SQUARE), polytope=SQUARE), ((), (3,), (2,), (2, 3)))
        self.assertEqual(restrictions(SQUARE, ((0, 1), (2, 3), (0, 3), (1, 2))), ((), (), (0, 3), (1, 2)))

    def test_as_defined(self):
        source = random.Random(31)
        for name, value in some_polytopes().items():
            for _ in range(3):
                ordering = list(facets_of(value))
                source.shuffle(ordering)
                answer = restrictions(value, tuple(ordering))
                self.assertTrue(is_plain(answer))
                self.assertEqual(answer, restrictions_by_definition(tuple(ordering)), name)

    def test_the_h_row_counts_them(self):
        source = random.Random(32)
        values = list(some_polytopes().values())
        values.extend(made(dimension, row) for dimension in (4, 6, 7) for row in rows_with(dimension, dimension + 4)[::9])
        for value in values:
            ordering = line_ordering(value, random_direction(source, value[0], 10 ** 9))
            sizes = [len(lot) for lot in restrictions(value, ordering)]
            h = h_row(value[0], face_row(value))
            self.assertEqual(tuple(sizes.count(many) for many in range(value[0] + 1)), h)

    def test_each_face_lies_behind_just_one(self):
        source = random.Random(33)
        for value in (SQUARE, OCTA, CROSS, TOPS, cyclic(3, 7), cyclic(5, 8), stacked(4, 3)):
            ordering = line_ordering(sheared(value, Fraction(1, 97)), random_direction(source, value[0], 10 ** 9))
            told = restrictions(value, ordering)
            for face in faces_by_definition(facets_of(value)):
                between = [facet for facet, lot in zip(ordering, told) if set(lot) <= set(face) <= set(facet)]
                self.assertEqual(len(between), 1)


class Shellings(unittest.TestCase):
    def test_by_hand(self):
        way = line_ordering(OCTA, WAY)
        self.assertIs(is_shelling(OCTA, way), True)
        self.assertIs(is_shelling(OCTA, ((0, 2, 4), (1, 3, 5)) + way[1:7]), False)
        self.assertIs(is_shelling(ordering=facets_of(SQUARE), polytope=SQUARE), True)
        self.assertIs(is_shelling(SQUARE, ((0, 1), (2, 3), (0, 3), (1, 2))), False)
        # The first facet's restriction is (), and that is no fault.
        self.assertIs(is_shelling(simplex(2), facets_of(simplex(2))), True)

    def test_all_orderings_of_small_polytopes(self):
        for value in (SQUARE, simplex(2), simplex(3), cyclic(2, 5)):
            said = []
            for ordering in permutations(facets_of(value)):
                said.append(is_shelling(value, ordering))
                self.assertIs(said[-1], is_shelling_by_definition(ordering))
            self.assertIn(True, said)
        self.assertIn(False, said)

    def test_all_orderings_of_simplices_are_shellings(self):
        source = random.Random(34)
        for dimension in range(2, 8):
            for _ in range(5):
                ordering = list(facets_of(simplex(dimension)))
                source.shuffle(ordering)
                self.assertIs(is_shelling(simplex(dimension), tuple(ordering)), True)

    def test_two_facets_exchanged(self):
        said = set()
        for value, way in ((OCTA, WAY), (sheared(CROSS, Fraction(1, 5)), WAY + ((1, 3),)), (TOPS, WAY + ((1, 3),))):
            ordering = line_ordering(value, way)
            for one in range(len(ordering)):
                for two in range(one):
                    other = exchanged(ordering, one, two)
                    said.add(is_shelling(value, other))
                    self.assertIs(is_shelling(value, other), is_shelling_by_definition(other))
                    self.assertEqual(restrictions(value, other), restrictions_by_definition(other))
        self.assertEqual(said, {True, False})

    def test_in_any_order(self):
        source = random.Random(35)
        said = []
        for value in (OCTA, TOPS, cyclic(3, 6), cyclic(2, 6), stacked(3, 1), stacked(2, 2), CROSS):
            for _ in range(60):
                ordering = list(facets_of(value))
                source.shuffle(ordering)
                said.append(is_shelling(value, tuple(ordering)))
                self.assertIs(said[-1], is_shelling_by_definition(tuple(ordering)))
        self.assertEqual(set(said), {True, False})

    def test_built_up_facet_by_facet(self):
        # Facets that keep to the definition are put behind, so shellings that are no line orderings stand here, too.
        source = random.Random(36)
        for value in (OCTA, cyclic(3, 7), TOPS, stacked(3, 3)):
            for _ in range(10):
                left = list(facets_of(value))
                source.shuffle(left)
                ordering = ()
                while left:
                    fit = [facet for facet in left if is_shelling_by_definition(ordering + (facet,))]
                    if not fit:
                        break
                    ordering += (fit[0],)
                    left.remove(fit[0])
                if not left:
                    self.assertIs(is_shelling(value, ordering), True)
                    h = h_row(value[0], face_row(value))
                    sizes = [len(lot) for lot in restrictions(value, ordering)]
                    self.assertEqual(tuple(sizes.count(many) for many in range(value[0] + 1)), h)


class WrongArguments(unittest.TestCase):
    def test_no_polytope(self):
        for value in NO_POLYTOPES:
            for call, rest in ((line_ordering, WAY), (restrictions, ()), (is_shelling, ()), (line_ordering, None),
                               (restrictions, None), (is_shelling, 5)):
                error = raised(InvalidPolytope, call, value, rest)
                self.assertIs(error.given, value)
                self.assertEqual(list(vars(error)), ["given"])
        self.assertEqual(raised(InvalidPolytope, line_ordering, direction=None, polytope=5).given, 5)
        self.assertEqual(raised(InvalidPolytope, restrictions, ordering=None, polytope=5).given, 5)
        self.assertEqual(raised(InvalidPolytope, is_shelling, ordering=None, polytope=5).given, 5)

    def no_direction(self, value, direction):
        error = raised(InvalidDirection, line_ordering, value, direction)
        self.assertIs(error.given, direction)
        self.assertEqual(list(vars(error)), ["given"])
        self.assertIs(raised(InvalidDirection, line_ordering, direction=direction, polytope=value).given, direction)

    def test_no_direction(self):
        for direction in JUNK + (WAY[:2], WAY + (ONE,), WAY[:1], WAY * 2, (WAY,), list(WAY), str(WAY), OCTA,
                                 dict.fromkeys(WAY), set(WAY)):
            self.no_direction(OCTA, direction)
        for wrong in WRONG_RATIOS:
            for place in range(3):
                self.no_direction(OCTA, with_number(WAY, place, wrong))

    def test_41_figures(self):
        for wrong in ((MOST + 1, 1), (-MOST - 1, 1), (1, MOST + 1), (-1, MOST + 1), (MOST + 2, MOST + 1)):
            for place in range(3):
                self.no_direction(OCTA, with_number(WAY, place, wrong))
        self.assertEqual(line_ordering(OCTA, with_number(WAY, 0, (MOST, 1))), line_ordering(OCTA, WAY))

    def test_not_in_lowest_terms(self):
        self.no_direction(OCTA, ((8, 2), (2, 1), (1, 1)))
        self.no_direction(OCTA, ((4, 1), (2, 1), (0, 2)))
        self.no_direction(SQUARE, ((2, 1), (1, -1)))

    def test_no_ordering(self):
        way = line_ordering(OCTA, WAY)
        wrong = (way[:7], way[1:], way[:7] + way[:1], way + way[:1], way * 2, (way,), (), list(way), str(way),
                 way[:7] + ((1, 2, 3),), way[:7] + ((5, 3, 1),), way[:7] + ((1, 3),), way[:7] + ((),),
                 way[:7] + ([1, 3, 5],), way[:7] + ((True, 3, 5),), ((False, 2, 4),) + way[1:], way[:7] + (None,),
                 way[:7] + ("135",), way[:7] + ((1, 3, 6),), way[:7] + ((1, 3, "5"),), way[:7] + ((1, 3, -1),),
                 way[:7] + (7,), way[:7] + ((1, 3, 5), ()), dict.fromkeys(way), set(way), OCTA, iter(way))
        for ordering in JUNK + wrong:
            for call in (restrictions, is_shelling):
                error = raised(InvalidOrdering, call, OCTA, ordering)
                self.assertIs(error.given, ordering)
                self.assertEqual(list(vars(error)), ["given"])
                self.assertIs(raised(InvalidOrdering, call, ordering=ordering, polytope=OCTA).given, ordering)

    def test_no_ordering_of_this_polytope(self):
        for value in (SQUARE, CROSS, simplex(3), shuffled(OCTA, 2), cyclic(3, 6)):
            ordering = facets_of(value)
            if ordering != facets_of(OCTA):
                self.assertIs(raised(InvalidOrdering, is_shelling, OCTA, ordering).given, ordering)

    def test_the_last_facet_need_not_have_the_last_point(self):
        value = pointed(2, [[0, 0], [1, 3], [3, 3], [4, 0], [2, -1]])
        value = (2, tuple(value[1][at] for at in (0, 2, 3, 4, 1)))
        self.assertEqual(facets_of(value)[-1], (2, 3))
        for ordering in (facets_of(value), line_ordering(value, ((7, 3), (5, 11)))):
            self.assertIs(is_shelling(value, ordering), is_shelling_by_definition(ordering))
            self.assertEqual(restrictions(value, ordering), restrictions_by_definition(ordering))


if __name__ == "__main__":
    unittest.main()
