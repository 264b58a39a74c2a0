"""Promises [20], [21] and [22]: forms, ranks and taken monomials; [4], [5], [6] and [13] for these functions."""

import random
import unittest
from fractions import Fraction
from itertools import combinations

from facenumbers.errors import InvalidMonomial, InvalidNumber, InvalidPolytope
from facenumbers.facerows import rows_with
from facenumbers.macaulay import is_m_sequence
from facenumbers.making import made
from facenumbers.monomials import compressed, counts_of, is_order_ideal, monomials
from facenumbers.polytopes import is_polytope, missing_faces
from facenumbers.rings import base_of, forms_of, rank_of, taken, told_by
from facenumbers.rows import face_row, g_row
from tests.examples import (
    CROSS, JUNK, OCTA, SQUARE, TOPS, cyclic, determinant, is_plain, pointed, random_told_ratio, random_values, rank,
    ratio, shuffled, simplex, some_polytopes, stacked, worths,
)
from tests.test_faces import NO_POLYTOPES, raised

# Polytopes whose first D + 1 points lie in one hyperplane.
FLAT_FIRST = {
    "octa": OCTA,
    "tops in another order": (4, TOPS[1][4:] + TOPS[1][:4]),
    "square first": pointed(3, [[1, 0, 0], [0, 1, 0], [-1, 0, 0], [0, -1, 0], [0, 0, 1], [0, 0, -1]]),
    "square last": pointed(3, [[0, 0, 1], [0, 0, -1], [1, 0, 0], [0, 1, 0], [-1, 0, 0], [0, -1, 0]]),
    "cross": CROSS,
}


def many_polytopes():
    found = dict(some_polytopes())
    found.update(FLAT_FIRST)
    for dimension, points in ((4, 7), (4, 8), (5, 9), (6, 9), (6, 10), (7, 11)):
        for row in rows_with(dimension, points)[::4]:
            found[f"made {dimension} {row}"] = made(dimension, row)
    return found


def g_of(value):
    return g_row(value[0], face_row(value))


def variables_of(value):
    return len(value[1]) - value[0] - 1


def forms_in_fractions(value):
    return [[Fraction(*number) for number in form] for form in forms_of(value)]


def multiplied(one, two):
    """The product of polynomials, dicts from monomials to Fractions."""
    total = {}
    for left, factor in one.items():
        for right, other in two.items():
            monomial = tuple(sorted(left + right))
            total[monomial] = total.get(monomial, 0) + factor * other
    return total


def relations(value, degree):
    """All relations of [20], as rows for the monomials in order."""
    forms = [{(place + 1,): number for place, number in enumerate(form)} for form in forms_in_fractions(value)]
    order = monomials(variables_of(value), degree)
    rows = []
    for face in missing_faces(value):
        if len(face) <= degree:
            product = {(): Fraction(1)}
            for index in face:
                product = multiplied(product, forms[index])
            for monomial in monomials(variables_of(value), degree - len(face)):
                row = multiplied(product, {monomial: Fraction(1)})
                rows.append([row.get(one, Fraction(0)) for one in order])
    return order, rows


def taken_by_definition(value):
    found = []
    for degree in range(value[0] // 2 + 1):
        order, rows = relations(value, degree)
        for at, monomial in enumerate(order):
            units = [[Fraction(place == one) for place in range(len(order))] for one in range(at + 1)]
            if rank(rows + units) > rank(rows + units[:at]):
                found.append(monomial)
    return tuple(found)


class Bases(unittest.TestCase):
    def test_by_hand(self):
        self.assertEqual(base_of(OCTA), ((0, 1, 2, 4), (3, 5)))
        self.assertEqual(base_of(polytope=SQUARE), ((0, 1, 2), (3,)))
        self.assertEqual(base_of(CROSS), ((0, 1, 2, 4, 6), (3, 5, 7)))
        self.assertEqual(base_of(FLAT_FIRST["square first"]), ((0, 1, 2, 4), (3, 5)))
        self.assertEqual(base_of(FLAT_FIRST["square last"]), ((0, 1, 2, 3), (4, 5)))
        self.assertEqual(base_of(TOPS), ((0, 1, 2, 3, 4), (5,)))

    def test_simplices(self):
        for dimension in range(2, 8):
            self.assertEqual(base_of(simplex(dimension)), (tuple(range(dimension + 1)), ()))
            self.assertEqual(forms_of(simplex(dimension)), ((),) * (dimension + 1))

    def test_as_defined(self):
        for name, value in many_polytopes().items():
            if value[0] <= 5 or name.startswith("stacked"):
                points = [[Fraction(1)] + point for point in worths(value)]
                for lot in combinations(range(len(points)), value[0] + 1):
                    if determinant([points[index] for index in lot]) != 0:
                        break
                others = tuple(index for index in range(len(points)) if index not in lot)
                answer = base_of(value)
                self.assertEqual(answer, (lot, others), name)
                self.assertTrue(is_plain(answer))

    def test_in_another_order(self):
        for seed in range(20):
            value = shuffled(OCTA, seed)
            points = [[Fraction(1)] + point for point in worths(value)]
            lots = [lot for lot in combinations(range(6), 4) if determinant([points[index] for index in lot]) != 0]
            self.assertEqual(base_of(value)[0], lots[0])


class Forms(unittest.TestCase):
    def test_by_hand(self):
        one, none, less = (1, 1), (0, 1), (-1, 1)
        self.assertEqual(forms_of(OCTA), ((less, less), (less, less), (one, none), (one, none), (none, one),
                                          (none, one)))
        self.assertEqual(forms_of(polytope=SQUARE), ((less,), (one,), (less,), (one,)))
        half = (-1, 2)
        self.assertEqual(forms_of(TOPS), ((half,), (half,), (half,), (half,), (one,), (one,)))

    def test_as_defined(self):
        for name, value in many_polytopes().items():
            answer = forms_of(value)
            self.assertTrue(is_plain(answer))
            self.assertEqual(len(answer), len(value[1]))
            base, free = base_of(value)
            points = worths(value)
            for form in answer:
                self.assertEqual(len(form), variables_of(value))
                self.assertEqual(form, tuple(ratio(Fraction(*number)) for number in form))
            for place, index in enumerate(free):
                unit = tuple((1, 1) if place == at else (0, 1) for at in range(len(free)))
                self.assertEqual(answer[index], unit, name)
                often = [-Fraction(*answer[one][place]) for one in base]
                self.assertEqual(sum(often), 1)
                for at in range(value[0]):
                    total = sum(number * points[one][at] for number, one in zip(often, base))
                    self.assertEqual(total, points[index][at])

    def test_affine_functions(self):
        source = random.Random(20)
        for value in many_polytopes().values():
            forms = forms_in_fractions(value)
            for _ in range(3):
                first, *factors = [Fraction(source.randint(-9, 9), source.randint(1, 9)) for _ in range(value[0] + 1)]
                often = [first + sum(one * two for one, two in zip(factors, point)) for point in worths(value)]
                for place in range(variables_of(value)):
                    self.assertEqual(sum(number * form[place] for number, form in zip(often, forms)), 0)


class Ranks(unittest.TestCase):
    def test_the_g_row(self):
        for name, value in many_polytopes().items():
            half = value[0] // 2
            ranks = tuple(rank_of(value, degree) for degree in range(half + 2))
            self.assertEqual(ranks, g_of(value) + (0,), name)
            self.assertTrue(is_plain(ranks))

    def test_by_hand(self):
        self.assertEqual([rank_of(OCTA, degree) for degree in range(3)], [1, 2, 0])
        self.assertEqual(rank_of(degree=2, polytope=CROSS), 2)
        self.assertEqual([rank_of(TOPS, degree) for degree in range(4)], [1, 1, 0, 0])
        self.assertEqual([rank_of(simplex(6), degree) for degree in range(5)], [1, 0, 0, 0, 0])

    def test_as_defined(self):
        for name, value in many_polytopes().items():
            for degree in range(value[0] // 2 + 2):
                if value[0] + degree <= 8:
                    order, rows = relations(value, degree)
                    self.assertEqual(rank_of(value, degree), len(order) - rank(rows), (name, degree))

    def test_random_polytopes(self):
        found = 0
        for dimension, points, width in ((2, 6, 9), (3, 6, 4), (4, 7, 4), (4, 8, 6), (5, 8, 4), (5, 9, 5)):
            for value in random_values(21, dimension, points, width, 12):
                if is_polytope(value):
                    found += 1
                    ranks = tuple(rank_of(value, degree) for degree in range(dimension // 2 + 2))
                    self.assertEqual(ranks, g_of(value) + (0,))
                    self.assertEqual(taken(value), taken_by_definition(value))
        self.assertGreater(found, 10)

    def test_numbers_of_40_figures(self):
        source = random.Random(22)
        for dimension, points in ((2, 5), (3, 6), (4, 7)):
            value = None
            while not is_polytope(value):
                value = (dimension, tuple(
                    tuple(random_told_ratio(source) for _ in range(dimension)) for _ in range(points)
                ))
            ranks = tuple(rank_of(value, degree) for degree in range(dimension // 2 + 2))
            self.assertEqual(ranks, g_of(value) + (0,))
            self.assertEqual(counts_of(variables_of(value), taken(value)), g_of(value)[:len(ranks) - ranks.count(0)])


class Taken(unittest.TestCase):
    def test_by_hand(self):
        self.assertEqual(taken(OCTA), ((), (1,), (2,)))
        self.assertEqual(taken(polytope=CROSS), ((), (1,), (2,), (3,), (1, 2), (1, 3)))
        self.assertEqual(taken(SQUARE), ((), (1,)))
        self.assertEqual(taken(cyclic(4, 7)), ((), (1,), (2,), (1, 1), (1, 2), (2, 2)))
        for dimension in range(2, 8):
            self.assertEqual(taken(simplex(dimension)), ((),))
            self.assertEqual(taken(stacked(dimension, 2)), ((), (1,), (2,)))

    def test_order_ideals_that_the_g_row_counts(self):
        for name, value in many_polytopes().items():
            for seed in range(2):
                told = shuffled(value, seed) if seed else value
                answer = taken(told)
                self.assertTrue(is_plain(answer))
                self.assertIs(is_order_ideal(variables_of(value), answer), True, name)
                counts = counts_of(variables_of(value), answer)
                g = g_of(value)
                self.assertEqual(counts + (0,) * (len(g) - len(counts)), g, name)
                self.assertIs(is_m_sequence(g), True)

    def test_as_defined(self):
        for name, value in many_polytopes().items():
            if value[0] <= 5:
                self.assertEqual(taken(value), taken_by_definition(value), name)
                other = shuffled(value, 5)
                self.assertEqual(taken(other), taken_by_definition(other), name)

    def test_not_only_compressed_ones(self):
        self.assertNotEqual(taken(CROSS), compressed((1, 3, 2)))
        value = made(5, (9, 34, 66, 65, 26))
        answers = {taken(shuffled(value, seed)) for seed in range(20)}
        self.assertGreater(len(answers), 2)
        for answer in answers:
            self.assertEqual(counts_of(3, answer), g_of(value))

    def test_equal_calls(self):
        self.assertEqual(taken(CROSS), taken((4, tuple(list(CROSS[1])))))


class ToldBy(unittest.TestCase):
    def check(self, value, monomial):
        """The sum told, and that it is the monomial in the ring."""
        answer = told_by(value, monomial)
        self.assertTrue(is_plain(answer))
        ideal = taken(value)
        places = [ideal.index(one) for one, _ in answer]
        self.assertEqual(places, sorted(set(places)))
        order, rows = relations(value, len(monomial))
        difference = [Fraction(one == monomial) for one in order]
        for one, told in answer:
            self.assertEqual(len(one), len(monomial))
            self.assertNotEqual(told[0], 0)
            self.assertEqual(told, ratio(Fraction(*told)))
            difference[order.index(one)] -= Fraction(*told)
        self.assertEqual(rank(rows + [difference]), rank(rows))
        if monomial in ideal:
            self.assertEqual(answer, ((monomial, (1, 1)),))
        else:
            self.assertTrue(all(order.index(one) < order.index(monomial) for one, _ in answer))
        return answer

    def test_by_hand(self):
        self.assertEqual(told_by(CROSS, (2, 3)), (((1, 2), (-1, 1)), ((1, 3), (-1, 1))))
        self.assertEqual(told_by(CROSS, (1, 3)), (((1, 3), (1, 1)),))
        self.assertEqual(told_by(monomial=(2, 2), polytope=CROSS), ())
        self.assertEqual(told_by(OCTA, ()), (((), (1, 1)),))
        self.assertEqual(told_by(OCTA, (2,)), (((2,), (1, 1)),))
        self.assertEqual(told_by(TOPS, (1, 1)), ())
        self.assertEqual(told_by(simplex(4), ()), (((), (1, 1)),))

    def test_as_defined(self):
        kinds = set()
        for value in many_polytopes().values():
            if value[0] <= 6:
                for degree in range(value[0] // 2 + 1):
                    for monomial in monomials(variables_of(value), degree):
                        answer = self.check(value, monomial)
                        kinds.add((len(answer), monomial in taken(value)))
        self.assertLessEqual({(1, True), (0, False), (1, False), (2, False)}, kinds)

    def test_in_another_order(self):
        for seed in range(6):
            for value in (CROSS, cyclic(4, 8), made(4, (8, 25, 34, 17))):
                other = shuffled(value, seed)
                for monomial in monomials(3, 2):
                    self.check(other, monomial)


class WrongArguments(unittest.TestCase):
    def test_no_polytope(self):
        for value in NO_POLYTOPES:
            for call, rest in ((base_of, ()), (forms_of, ()), (rank_of, (0,)), (taken, ()), (told_by, ((),))):
                error = raised(InvalidPolytope, call, value, *rest)
                self.assertIs(error.given, value)
                self.assertEqual(list(vars(error)), ["given"])

    def test_the_polytope_is_looked_at_first(self):
        for wrong in (None, -1, 99, "x", (9,)):
            self.assertEqual(raised(InvalidPolytope, rank_of, 5, wrong).given, 5)
            self.assertEqual(raised(InvalidPolytope, rank_of, degree=wrong, polytope=5).given, 5)
            self.assertEqual(raised(InvalidPolytope, told_by, 5, wrong).given, 5)
            self.assertEqual(raised(InvalidPolytope, told_by, monomial=wrong, polytope=5).given, 5)

    def test_degree(self):
        for dimension in range(2, 8):
            value = cyclic(dimension, dimension + 3)
            half = dimension // 2
            for wrong in (-1, half + 2, 10 ** 40, -10 ** 40, None, True, False, "1", "", b"1", (), (1,), [1], {}, {1}):
                error = raised(InvalidNumber, rank_of, value, wrong)
                self.assertIs(error.given, wrong)
                self.assertEqual(list(vars(error)), ["given"])
                self.assertIs(raised(InvalidNumber, rank_of, degree=wrong, polytope=value).given, wrong)
            self.assertEqual(rank_of(value, half + 1), 0)

    def test_monomial(self):
        for wrong in JUNK + ([1], [], (0,), (-1,), (4,), (1, 4), (2, 1), (1, 1, 1), (1, 2, 3), (True,), (1, True),
                             (False,), (None,), ("1",), (1, "2"), ((1,),), (1, None), ([1], 2), (10 ** 40,), "1", 1):
            if wrong != () and wrong != (2,):
                error = raised(InvalidMonomial, told_by, CROSS, wrong)
                self.assertIs(error.given, wrong)
                self.assertEqual(list(vars(error)), ["given"])
                self.assertIs(raised(InvalidMonomial, told_by, monomial=wrong, polytope=CROSS).given, wrong)

    def test_bounds_of_monomials(self):
        for dimension in range(2, 8):
            half = dimension // 2
            for more in range(4):
                value = stacked(dimension, more)
                for degree in range(1, half + 2):
                    for monomial in ((1,) * degree, (more,) * degree):
                        if 1 <= more and degree <= half:
                            told_by(value, monomial)
                        else:
                            self.assertIs(raised(InvalidMonomial, told_by, value, monomial).given, monomial)
                    monomial = (1,) * (degree - 1) + (more + 1,)
                    self.assertIs(raised(InvalidMonomial, told_by, value, monomial).given, monomial)


if __name__ == "__main__":
    unittest.main()
