"""Promises [4], [6], [7], [8]: what is_polytope takes for a polytope."""

import random
import unittest

from facenumbers.polytopes import facets_of, is_polytope
from tests.examples import (
    CROSS, JUNK, OCTA, SQUARE, TOPS, cyclic, facets_by_definition, pointed, random_told_ratio, random_values,
    simplex, some_polytopes, units,
)

MOST = 10 ** 40 - 1


def triangle_with(number):
    """A triangle with the number at one place: always a polytope if it is a told ratio."""
    return (2, (((-1, 1), (0, 1)), ((0, 1), (-1, 1)), ((1, 1), number)))


def tall_with(number):
    return (2, (((0, 1), (0, 1)), ((1, 1), (0, 1)), ((0, 1), number)))


class Numbers(unittest.TestCase):
    def test_told_ratios(self):
        for number in ((1, 1), (2, 1), (1, 2), (-1, 2), (5, 3), (-7, 4), (MOST, 1), (-MOST, 1), (1, MOST),
                       (-1, MOST), (MOST, MOST - 1), (-MOST, MOST - 1)):
            self.assertIs(is_polytope(tall_with(number)), True, number)

    def test_nought_has_one_form(self):
        self.assertIs(is_polytope(triangle_with((0, 1))), True)
        for number in ((0, 2), (0, -1), (0, 0), (0, MOST)):
            self.assertIs(is_polytope(triangle_with(number)), False, number)

    def test_41_figures(self):
        for number in ((MOST + 1, 1), (-MOST - 1, 1), (1, MOST + 1), (-1, MOST + 1), (10 ** 60, 1),
                       (MOST + 2, MOST + 1)):
            self.assertIs(is_polytope(tall_with(number)), False, number)

    def test_not_in_lowest_terms(self):
        for number in ((2, 2), (2, 4), (-2, 4), (6, 3), (3, 6), (MOST, MOST), (MOST, 3)):
            self.assertIs(is_polytope(tall_with(number)), False, number)

    def test_denominators_of_nought_and_below(self):
        for number in ((1, 0), (1, -1), (-1, -1), (3, -2), (1, -MOST)):
            self.assertIs(is_polytope(tall_with(number)), False, number)

    def test_true_and_false_are_no_numbers(self):
        for number in ((True, 1), (1, True), (True, True), (False, 1), (-1, True)):
            self.assertIs(is_polytope(triangle_with(number)), False, number)
        points = triangle_with((1, 1))[1]
        self.assertIs(is_polytope((True, points)), False)
        self.assertIs(is_polytope((False, points)), False)

    def test_no_pairs_of_whole_numbers(self):
        for number in JUNK + ((1,), (1, 1, 1), [1, 1], ("1", 1), (1, "1"), (1, None), (None, 1), ((1,), 1),
                              (1, [1]), (b"1", 1), "11", {1: 1}):
            self.assertIs(is_polytope(triangle_with(number)), False, number)


class Form(unittest.TestCase):
    def test_any_value(self):
        points = simplex(2)[1]
        for value in JUNK + (OCTA[1], (OCTA,), (OCTA, OCTA), str(OCTA)):
            self.assertIs(is_polytope(value), False, value)
            self.assertIs(is_polytope((value, OCTA[1])), False, value)
            self.assertIs(is_polytope((2, value)), False, value)
            self.assertIs(is_polytope((2, points[:2] + (value,))), False, value)
            self.assertIs(is_polytope((2, points[:2] + (((0, 1), value),))), False, value)
        self.assertIs(is_polytope(value=None), False)
        self.assertIs(is_polytope(value=OCTA), True)

    def test_deep_values(self):
        deep = ()
        for _ in range(18):
            deep = (2, deep)
            self.assertIs(is_polytope(deep), False)

    def test_lists_for_tuples(self):
        dimension, points = SQUARE
        self.assertIs(is_polytope(SQUARE), True)
        self.assertIs(is_polytope([dimension, points]), False)
        self.assertIs(is_polytope((dimension, list(points))), False)
        self.assertIs(is_polytope((dimension, points[:3] + (list(points[3]),))), False)
        self.assertIs(is_polytope((dimension, points[:3] + ((points[3][0], list(points[3][1])),))), False)

    def test_more_or_less_parts(self):
        self.assertIs(is_polytope(SQUARE + (1,)), False)
        self.assertIs(is_polytope(SQUARE[:1]), False)
        self.assertIs(is_polytope(SQUARE[::-1]), False)

    def test_dimensions(self):
        self.assertIs(is_polytope(pointed(1, [[0], [1]])), False)
        self.assertIs(is_polytope((0, ((),))), False)
        self.assertIs(is_polytope((-2, SQUARE[1])), False)
        for dimension in range(2, 8):
            self.assertIs(is_polytope(simplex(dimension)), True)
        self.assertIs(is_polytope(simplex(8)), False)

    def test_points_of_another_dimension(self):
        flat, solid = simplex(2)[1], simplex(3)[1]
        self.assertIs(is_polytope((3, flat)), False)
        self.assertIs(is_polytope((2, solid)), False)
        self.assertIs(is_polytope((3, solid[:3] + flat[:1])), False)
        self.assertIs(is_polytope((3, solid + flat[:1])), False)
        self.assertIs(is_polytope((2, flat[:2] + ((),))), False)

    def test_numbers_of_points(self):
        for dimension in range(2, 8):
            for many in range(dimension + 6):
                said = is_polytope(cyclic(dimension, many))
                self.assertIs(said, dimension + 1 <= many <= dimension + 4, (dimension, many))


class Position(unittest.TestCase):
    def test_the_examples_are_polytopes(self):
        for name, value in some_polytopes().items():
            self.assertIs(is_polytope(value), True, name)

    def test_points_in_any_order(self):
        for dimension, points in (SQUARE, OCTA, CROSS, TOPS):
            self.assertIs(is_polytope((dimension, points[::-1])), True)
            self.assertIs(is_polytope((dimension, points[2:] + points[:2])), True)

    def test_a_point_twice(self):
        for dimension in range(2, 8):
            points = simplex(dimension)[1]
            self.assertIs(is_polytope((dimension, points + points[:1])), False)
            self.assertIs(is_polytope((dimension, points + points[-1:])), False)
            self.assertIs(is_polytope((dimension, points + points[:1] * 2)), False)
            self.assertIs(is_polytope((dimension, points[:-1] + points[:1])), False)

    def test_a_point_within(self):
        for dimension in range(2, 8):
            corners = [[0] * dimension] + units(dimension)
            within = [f"1/{dimension + 1}"] * dimension
            near = [f"1/{10 ** 39}"] * dimension
            beyond = [f"-1/{10 ** 39}"] * dimension
            self.assertIs(is_polytope(pointed(dimension, corners + [within])), False)
            self.assertIs(is_polytope(pointed(dimension, [within] + corners)), False)
            self.assertIs(is_polytope(pointed(dimension, corners + [near])), False)
            self.assertIs(is_polytope(pointed(dimension, corners + [within, within])), False)
            # From this point all facets at the corner of noughts are seen: it is none any more.
            self.assertIs(is_polytope(pointed(dimension, corners + [beyond])), False)

    def test_a_point_on_an_edge(self):
        for dimension in range(2, 8):
            corners = [[0] * dimension] + units(dimension)
            for on_edge in (["1/2"] + [0] * (dimension - 1), ["1/3", "2/3"] + [0] * (dimension - 2)):
                self.assertIs(is_polytope(pointed(dimension, corners + [on_edge])), False)
                self.assertIs(is_polytope(pointed(dimension, [on_edge] + corners)), False)

    def test_a_point_in_a_facet(self):
        for dimension in range(3, 8):
            corners = [[0] * dimension] + units(dimension)
            inside = [f"1/{dimension}"] * dimension
            self.assertIs(is_polytope(pointed(dimension, corners + [inside])), False)

    def test_a_point_in_a_facets_plane_outside_the_facet(self):
        for dimension in range(2, 8):
            corners = [[0] * dimension] + units(dimension)
            beside = [2, 2] + [0] * (dimension - 3) + [-3] if dimension > 2 else [2, -1]
            self.assertIs(is_polytope(pointed(dimension, corners + [beside])), False)
        # The last one makes the side x + y = 1 longer; the square has one more point on a side's line.
        self.assertIs(is_polytope(pointed(2, [[1, 0], [0, 1], [-1, 0], [0, -1], [2, -1]])), False)

    def test_all_points_in_one_plane(self):
        for dimension in range(2, 8):
            flat = [point + [3] for point in [[0] * (dimension - 1)] + units(dimension - 1)]
            inside = [[f"1/{dimension}"] * (dimension - 1) + [3]]
            away = [[-1] * (dimension - 1) + [3]]
            self.assertIs(is_polytope(pointed(dimension, flat + inside)), False)
            self.assertIs(is_polytope(pointed(dimension, flat + away)), False)
            self.assertIs(is_polytope(pointed(dimension, flat + away + inside)), False)
            self.assertIs(is_polytope(pointed(dimension, [[number] * dimension for number in range(dimension + 2)])),
                          False)

    def test_a_facet_that_is_no_simplex(self):
        cube_side = [[1, 1, 0], [1, -1, 0], [-1, 1, 0], [-1, -1, 0]]
        prism = [[0, 0, 0], [1, 0, 0], [0, 1, 0], [0, 0, 1], [1, 0, 1], [0, 1, 1]]
        self.assertIs(is_polytope(pointed(3, cube_side + [[0, 0, 1]])), False)
        self.assertIs(is_polytope(pointed(3, cube_side + [[0, 0, 1], [0, 0, -1]])), True)
        self.assertIs(is_polytope(pointed(3, prism)), False)
        for dimension in range(4, 8):
            pyramid = [point + [0] for point in cube_side]
            pyramid = [[*point, *[0] * (dimension - 4)] for point in pyramid]
            tops = units(dimension)[2:]
            self.assertIs(is_polytope(pointed(dimension, pyramid + tops)), False)

    def test_nearly_in_one_plane(self):
        tiny = f"1/{MOST}"
        self.assertIs(is_polytope(pointed(2, [[0, 0], [1, 0], [2, tiny]])), True)
        self.assertIs(is_polytope(pointed(3, [[1, 0, 0], [-1, 0, 0], [0, 1, 0], [0, -1, tiny], [0, 0, 1]])), True)
        self.assertIs(is_polytope(pointed(3, [[1, 0, 0], [-1, 0, 0], [0, 1, 0], [0, -1, 0], [0, 0, 1]])), False)
        self.assertIs(is_polytope(pointed(3, [[1, 0, 0], [-1, 0, 0], [0, 1, 0], [0, -1, f"-{tiny}"], [0, 0, 1]])),
                      True)

    def test_as_defined_for_random_values(self):
        cases = [(2, 4, 2, 150), (3, 4, 1, 60), (3, 5, 2, 120), (3, 6, 2, 120), (3, 7, 2, 60), (4, 5, 1, 40),
                 (4, 6, 1, 80), (4, 7, 2, 40), (4, 8, 3, 20), (5, 7, 1, 40), (5, 9, 4, 6), (6, 8, 1, 20)]
        cases += [(2, many, 3, 100) for many in (3, 5, 6)]
        for seed, (dimension, points, width, many) in enumerate(cases):
            answers = set()
            for value in random_values(seed, dimension, points, width, many):
                facets = facets_by_definition(value)
                answers.add(facets is not None)
                self.assertIs(is_polytope(value), facets is not None, value)
                if facets is not None:
                    self.assertEqual(facets_of(value), facets)
            self.assertIn(True, answers, (dimension, points))

    def test_as_defined_for_numbers_of_40_figures(self):
        source = random.Random(40)
        for dimension, points in ((2, 4), (3, 5), (4, 6)):
            for _ in range(5):
                value = (dimension, tuple(
                    tuple(random_told_ratio(source) for _ in range(dimension)) for _ in range(points)
                ))
                self.assertIs(is_polytope(value), facets_by_definition(value) is not None)


if __name__ == "__main__":
    unittest.main()
