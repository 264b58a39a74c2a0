"""Promises [24] and [25]: affine functions and dependences; [4], [5] and [6] for these functions."""

import random
import unittest
from fractions import Fraction

from facenumbers.errors import InvalidFace, InvalidPolytope, IsFace, NoFace
from facenumbers.making import made
from facenumbers.polytopes import facets_of, inequality_of, is_polytope
from facenumbers.rings import forms_of
from facenumbers.supports import barring, is_barring, is_supporting, supporting
from tests.examples import (
    CROSS, JUNK, OCTA, SQUARE, TOPS, cyclic, faces_by_definition, facets_by_definition, is_plain, long_polytope,
    random_values, ratio, sets_lacking_some, shuffled, simplex, some_polytopes, stacked, stretched, times,
    with_number, worths,
)
from tests.test_faces import NO_POLYTOPES, NO_SETS_OF_OCTA, raised

ONE, NONE, LESS = (1, 1), (0, 1), (-1, 1)
CORNER = (ONE, LESS, LESS, NONE)
ACROSS = (LESS, LESS, ONE, ONE, NONE, NONE)
SMALL = {
    "square": SQUARE, "octa": OCTA, "tops": TOPS, "triangle": simplex(2), "simplex": simplex(4), "cross": CROSS,
    "hexagon": cyclic(2, 6), "cyclic 3": cyclic(3, 7), "cyclic 4": cyclic(4, 7), "stacked": stacked(3, 2),
    "octa in another order": shuffled(OCTA, 1), "moved": stretched(TOPS, Fraction(3, 7), Fraction(-5, 2)),
    "cyclic 5": cyclic(5, 7), "made": made(4, (7, 19, 24, 12)),
}
WRONG_RATIOS = JUNK + (
    (1,), (0, 1, 1), [0, 1], [1, 1], (0, 2), (0, -1), (0, 0), (2, 2), (-2, 2), (4, 2), (1, 0), (1, -1), (-1, -1),
    (True, 1), (False, 1), (0, True), (1, True), (-1, True), ("0", 1), (0, "1"), (None, 1), ((0,), 1), "01", b"01",
    ((0, 1), 1), 1,
)


def supports_by_definition(value, face, function):
    first, *factors = [Fraction(*number) for number in function]
    heights = [first + sum(one * two for one, two in zip(factors, point)) for point in worths(value)]
    return all(height == 0 if index in face else height > 0 for index, height in enumerate(heights))


def bars_by_definition(value, face, dependence):
    numbers = [Fraction(*number) for number in dependence]
    sums = [sum(number * point[at] for number, point in zip(numbers, worths(value))) for at in range(value[0])]
    outside = [number for index, number in enumerate(numbers) if index not in face]
    return any(numbers) and sum(numbers) == 0 and not any(sums) and min(outside) >= 0 and max(outside) > 0


def are_told_well(told, many):
    return is_plain(told) and len(told) == many and all(number == ratio(Fraction(*number)) for number in told)


class JustOne(unittest.TestCase):
    def check(self, value, face, is_one):
        if is_one:
            function = supporting(value, face)
            self.assertTrue(are_told_well(function, value[0] + 1))
            self.assertTrue(supports_by_definition(value, face, function), (value, face))
            self.assertIs(is_supporting(value, face, function), True)
            error = raised(IsFace, barring, value, face)
        else:
            dependence = barring(value, face)
            self.assertTrue(are_told_well(dependence, len(value[1])))
            self.assertTrue(bars_by_definition(value, face, dependence), (value, face))
            self.assertIs(is_barring(value, face, dependence), True)
            error = raised(NoFace, supporting, value, face)
        self.assertIs(error.given, face)
        self.assertEqual(list(vars(error)), ["given"])

    def test_each_set_of_small_polytopes(self):
        for value in SMALL.values():
            faces = faces_by_definition(facets_by_definition(value))
            for face in sets_lacking_some(len(value[1])):
                self.check(value, face, face in faces)

    def test_random_polytopes(self):
        found = 0
        for dimension, points, width in ((2, 5, 9), (2, 6, 9), (3, 6, 4), (3, 7, 5), (4, 7, 4), (4, 8, 5)):
            for value in random_values(24, dimension, points, width, 12):
                if is_polytope(value):
                    found += 1
                    faces = faces_by_definition(facets_of(value))
                    for face in sets_lacking_some(points)[::3]:
                        self.check(value, face, face in faces)
        self.assertGreater(found, 10)

    def test_all_dimensions(self):
        for value in some_polytopes().values():
            faces = faces_by_definition(facets_of(value))
            sets = sets_lacking_some(len(value[1]))
            for face in sets[::len(sets) // 12 + 1]:
                self.check(value, face, face in faces)

    def test_numbers_of_40_figures(self):
        for dimension, points in ((2, 5), (3, 5), (4, 6), (5, 7)):
            value = long_polytope(25, dimension, points)
            faces = faces_by_definition(facets_of(value))
            for face in sets_lacking_some(points)[::5]:
                self.check(value, face, face in faces)

    def test_the_empty_set(self):
        for value in some_polytopes().values():
            self.check(value, (), True)

    def test_facets_and_their_neighbours(self):
        for value in (CROSS, cyclic(7, 11), cyclic(6, 9), simplex(7)):
            for facet in facets_of(value)[::7]:
                self.check(value, facet, True)
                for index in range(len(value[1])):
                    lot = tuple(sorted(set(facet) | {index}))
                    if lot != facet and len(lot) < len(value[1]):
                        self.check(value, lot, False)

    def test_simplices(self):
        for dimension in range(2, 8):
            for face in sets_lacking_some(dimension + 1):
                self.check(simplex(dimension), face, True)

    def test_by_name(self):
        self.assertIs(is_supporting(value=CORNER, face=(0, 2), polytope=OCTA), True)
        self.assertIs(is_barring(value=ACROSS, face=(0, 1), polytope=OCTA), True)
        self.assertTrue(supports_by_definition(OCTA, (0, 2), supporting(face=(0, 2), polytope=OCTA)))
        self.assertTrue(bars_by_definition(OCTA, (0, 1), barring(face=(0, 1), polytope=OCTA)))

    def test_equal_calls(self):
        self.assertEqual(supporting(OCTA, (0,)), supporting((3, tuple(list(OCTA[1]))), (0,)))
        self.assertEqual(barring(OCTA, (0, 1)), barring((3, tuple(list(OCTA[1]))), (0, 1)))

    def test_both_cannot_be(self):
        # The forms are dependences, and what a function has at the points is perpendicular to them.
        for value in (OCTA, CROSS, TOPS):
            forms = [[Fraction(*number) for number in form] for form in forms_of(value)]
            for face in ((), (0,), (0, 2)):
                first, *factors = [Fraction(*number) for number in supporting(value, face)]
                for place in range(len(forms[0])):
                    total = sum((first + sum(one * two for one, two in zip(factors, point))) * form[place]
                                for point, form in zip(worths(value), forms))
                    self.assertEqual(total, 0)


class IsSupporting(unittest.TestCase):
    def test_by_hand(self):
        self.assertIs(is_supporting(OCTA, (0, 2), CORNER), True)
        for face in ((), (0,), (2,), (1,), (0, 3), (0, 2, 4), (0, 2, 4, 5), (1, 3, 4, 5)):
            self.assertIs(is_supporting(OCTA, face, CORNER), False, face)
        self.assertIs(is_supporting(OCTA, (), (ONE, NONE, NONE, NONE)), True)
        self.assertIs(is_supporting(OCTA, (), (LESS, NONE, NONE, NONE)), False)
        self.assertIs(is_supporting(OCTA, (), ((2, 1), LESS, (1, 2), NONE)), True)
        self.assertIs(is_supporting(OCTA, (), ((1, 1), LESS, NONE, NONE)), False)

    def test_inequalities(self):
        for value in (SQUARE, OCTA, TOPS, cyclic(5, 8)):
            for facet in facets_of(value):
                factors, bound = inequality_of(value, facet)
                function = ((bound, 1),) + tuple((-number, 1) for number in factors)
                self.assertIs(is_supporting(value, facet, function), True)
                self.assertIs(is_supporting(value, facet[1:], function), False)
                self.assertIs(is_supporting(value, facet, times(function, -1)), False)

    def test_times_a_ratio(self):
        for value in SMALL.values():
            for face in ((), (0,), facets_of(value)[0]):
                function = supporting(value, face)
                for factor in (1, 7, Fraction(3, 8), Fraction(1, 10 ** 50), 10 ** 50 + 1):
                    self.assertIs(is_supporting(value, face, times(function, factor)), True)
                    self.assertIs(is_supporting(value, face, times(function, -factor)), False)
                self.assertIs(is_supporting(value, face, times(function, 0)), False)

    def test_one_number_otherwise(self):
        source = random.Random(26)
        for value in SMALL.values():
            for face in ((0,), facets_of(value)[0], facets_of(value)[-1][1:]):
                function = supporting(value, face)
                for place in range(len(function)):
                    for change in (1, -1, Fraction(1, 10 ** 60), Fraction(source.randint(-99, 99), 100)):
                        other = with_number(function, place, ratio(Fraction(*function[place]) + change))
                        self.assertIs(is_supporting(value, face, other), supports_by_definition(value, face, other))
                        if place == 0:
                            self.assertIs(is_supporting(value, face, other), change == 0)

    def test_as_defined(self):
        source = random.Random(27)
        said = []
        for _ in range(2000):
            function = tuple((source.choice((-1, 0, 0, 1, 1)), 1) for _ in range(4))
            for face in ((), (0,), (0, 2), (3, 4), (1, 3, 5)):
                said.append(is_supporting(OCTA, face, function))
                self.assertIs(said[-1], supports_by_definition(OCTA, face, function))
        self.assertEqual(set(said), {True, False})

    def test_more_than_40_figures(self):
        for figures in (41, 300, 3900):
            factor = Fraction(10 ** figures + 1, 3 * 10 ** (figures - 2) + 7)
            function = times(CORNER, factor)
            self.assertGreater(function[0][0], 10 ** (figures - 3))
            self.assertIs(is_supporting(OCTA, (0, 2), function), True)
            other = with_number(function, 1, ratio(Fraction(*function[1]) + Fraction(1, 10 ** figures)))
            self.assertIs(is_supporting(OCTA, (0, 2), other), False)

    def test_another_length(self):
        for wrong in ((), CORNER[:3], CORNER[1:], CORNER + (NONE,), CORNER * 2, (CORNER,), (NONE,) * 6):
            self.assertIs(is_supporting(OCTA, (0, 2), wrong), False)
        self.assertIs(is_supporting(OCTA, (), (ONE,)), False)
        self.assertIs(is_supporting(OCTA, (), (ONE, NONE, NONE)), False)

    def test_values_of_any_kind(self):
        for wrong in JUNK + (list(CORNER), dict.fromkeys(CORNER), set(CORNER), str(CORNER), OCTA):
            self.assertIs(is_supporting(OCTA, (0, 2), wrong), False)
            self.assertIs(is_supporting(OCTA, (), wrong), False)
        for wrong in WRONG_RATIOS:
            for place in range(4):
                self.assertIs(is_supporting(OCTA, (0, 2), with_number(CORNER, place, wrong)), False)
            self.assertIs(is_supporting(OCTA, (), (wrong,) * 4), False)
        self.assertIs(is_supporting(OCTA, (0, 2), (ONE, [-1, 1], LESS, NONE)), False)
        self.assertIs(is_supporting(OCTA, (0, 2), ((2, 2), LESS, LESS, NONE)), False)
        self.assertIs(is_supporting(OCTA, (0, 2), ((True, 1), LESS, LESS, NONE)), False)
        self.assertIs(is_supporting(OCTA, (0, 2), (ONE, LESS, LESS, (False, 1))), False)


class IsBarring(unittest.TestCase):
    def test_by_hand(self):
        self.assertIs(is_barring(OCTA, (0, 1), ACROSS), True)
        for face in ((0,), (1,), (2, 3), (), (0, 2), (4, 5), (2, 3, 4, 5), (0, 2, 3)):
            self.assertIs(is_barring(OCTA, face, ACROSS), False, face)
        for face in ((0, 1, 2), (0, 1, 4, 5), (0, 1, 2, 4, 5)):
            self.assertIs(is_barring(OCTA, face, ACROSS), True, face)
        # Nothing above 0 is left outside.
        self.assertIs(is_barring(OCTA, (0, 1, 2, 3), ACROSS), False)
        self.assertIs(is_barring(OCTA, (2, 3), times(ACROSS, -1)), True)
        self.assertIs(is_barring(SQUARE, (0, 2), (LESS, ONE, LESS, ONE)), True)

    def test_times_a_ratio(self):
        for value in SMALL.values():
            points = len(value[1])
            faces = faces_by_definition(facets_of(value))
            for face in [one for one in sets_lacking_some(points) if one not in faces][::9]:
                dependence = barring(value, face)
                for factor in (1, 7, Fraction(3, 8), Fraction(1, 10 ** 50), 10 ** 50 + 1):
                    self.assertIs(is_barring(value, face, times(dependence, factor)), True)
                    self.assertIs(is_barring(value, face, times(dependence, -factor)), False)
                self.assertIs(is_barring(value, face, (NONE,) * points), False)

    def test_one_number_otherwise(self):
        for value, face in ((OCTA, (0, 1)), (CROSS, (2, 3, 4)), (TOPS, (4, 5)), (cyclic(4, 7), (0, 2, 4, 6))):
            dependence = barring(value, face)
            for place in range(len(dependence)):
                for change in (1, -1, Fraction(1, 10 ** 60)):
                    number = ratio(Fraction(*dependence[place]) + change)
                    self.assertIs(is_barring(value, face, with_number(dependence, place, number)), False)

    def test_each_coordinate_and_the_sum_count(self):
        # The points lie around the point of noughts, so they can be taken such that all but the sum is right.
        self.assertIs(is_barring(OCTA, (0, 1), (LESS, LESS, (2, 1), (2, 1), NONE, NONE)), False)
        for value in (OCTA, CROSS):
            for at in range(value[0]):
                numbers = [NONE] * len(value[1])
                numbers[2 * at], numbers[2 * at + 1] = LESS, ONE
                self.assertIs(is_barring(value, (2 * at,), tuple(numbers)), False)

    def test_as_defined(self):
        source = random.Random(28)
        said = []
        for _ in range(2000):
            first, second, third = [source.choice((-1, 0, 1)) for _ in range(3)]
            numbers = [(one, 1) for one in (first, first, second, second, third, third)]
            if source.random() < 0.3:
                numbers[source.randrange(6)] = (source.choice((-1, 0, 1)), 1)
            for face in ((0, 1), (0, 1, 2), (2, 3), (), (0, 1, 2, 3)):
                said.append(is_barring(OCTA, face, tuple(numbers)))
                self.assertIs(said[-1], bars_by_definition(OCTA, face, tuple(numbers)))
        self.assertEqual(set(said), {True, False})

    def test_more_than_40_figures(self):
        for figures in (41, 300, 3900):
            factor = Fraction(10 ** figures + 1, 3 * 10 ** (figures - 2) + 7)
            dependence = times(ACROSS, factor)
            self.assertIs(is_barring(OCTA, (0, 1), dependence), True)
            other = with_number(dependence, 2, ratio(Fraction(*dependence[2]) + Fraction(1, 10 ** figures)))
            self.assertIs(is_barring(OCTA, (0, 1), other), False)

    def test_another_length(self):
        for wrong in ((), ACROSS[:5], ACROSS[1:], ACROSS + (NONE,), ACROSS * 2, (ACROSS,), CORNER):
            self.assertIs(is_barring(OCTA, (0, 1), wrong), False)

    def test_values_of_any_kind(self):
        for wrong in JUNK + (list(ACROSS), dict.fromkeys(ACROSS), set(ACROSS), str(ACROSS), OCTA):
            self.assertIs(is_barring(OCTA, (0, 1), wrong), False)
        for wrong in WRONG_RATIOS:
            for place in range(6):
                self.assertIs(is_barring(OCTA, (0, 1), with_number(ACROSS, place, wrong)), False)
            self.assertIs(is_barring(OCTA, (0, 1), (wrong,) * 6), False)
        self.assertIs(is_barring(OCTA, (0, 1), (LESS, LESS, (True, 1), ONE, NONE, NONE)), False)
        self.assertIs(is_barring(OCTA, (0, 1), (LESS, LESS, ONE, ONE, (False, 1), NONE)), False)
        self.assertIs(is_barring(OCTA, (0, 1), (LESS, [-1, 1], ONE, ONE, NONE, NONE)), False)
        self.assertIs(is_barring(OCTA, (0, 1), ((-2, 2), LESS, ONE, ONE, NONE, NONE)), False)


class WrongArguments(unittest.TestCase):
    calls = ((is_supporting, (CORNER,)), (is_barring, (ACROSS,)), (supporting, ()), (barring, ()))

    def test_no_polytope(self):
        for value in NO_POLYTOPES:
            for call, rest in self.calls:
                error = raised(InvalidPolytope, call, value, (0,), *rest)
                self.assertIs(error.given, value)
                self.assertEqual(list(vars(error)), ["given"])

    def test_no_set(self):
        for face in NO_SETS_OF_OCTA:
            for call, rest in self.calls:
                error = raised(InvalidFace, call, OCTA, face, *rest)
                self.assertIs(error.given, face)
                self.assertEqual(list(vars(error)), ["given"])

    def test_the_set_of_all_points(self):
        for value in SMALL.values():
            every = tuple(range(len(value[1])))
            for call, rest in self.calls:
                self.assertIs(raised(InvalidFace, call, value, every, *rest).given, every)
            for face in (every[:-1], every[1:]):
                self.assertIs(is_barring(value, face, None), False)

    def test_the_first_error_in_the_order_of_the_signature(self):
        for wrong in (None, (1, 0), -1, "x"):
            self.assertEqual(raised(InvalidPolytope, is_supporting, 5, wrong, None).given, 5)
            self.assertEqual(raised(InvalidPolytope, is_barring, value=None, face=wrong, polytope=5).given, 5)
            self.assertEqual(raised(InvalidPolytope, supporting, face=wrong, polytope=5).given, 5)
            self.assertEqual(raised(InvalidPolytope, barring, face=wrong, polytope=5).given, 5)
            self.assertIs(raised(InvalidFace, is_supporting, value=None, face=wrong, polytope=OCTA).given, wrong)
            self.assertIs(raised(InvalidFace, is_barring, value=None, face=wrong, polytope=OCTA).given, wrong)


if __name__ == "__main__":
    unittest.main()
