"""Promises [1] to [6] over the whole program, and the interface as the document lists it."""

import ast
import importlib
import inspect
import os
import unittest
from itertools import product
from math import comb

import facenumbers
from facenumbers.certificates import certify_counted, certify_row
from facenumbers.checker import accepts
from facenumbers.errors import FaceError
from facenumbers.facerows import is_face_row, rows_with, why_none
from facenumbers.macaulay import is_m_sequence
from facenumbers.making import made
from facenumbers.monomials import counts_of, is_order_ideal, monomials
from facenumbers.polytopes import facets_of, is_polytope
from facenumbers.rings import rank_of, taken
from facenumbers.rows import face_row, g_row, h_row, row_of
from tests.examples import CROSS, JUNK, OCTA, SQUARE, TOPS, cyclic, shuffled, simplex, some_polytopes
from tests.test_facerows import EVERY

INTERFACE = {
    "polytopes": ("is_polytope(value)", "facets_of(polytope)", "inequality_of(polytope, facet)", "is_face(polytope, face)",
                  "faces_of(polytope, many)", "missing_faces(polytope)"),
    "rows": ("face_row(polytope)", "h_row(dimension, row)", "g_row(dimension, row)", "row_of(dimension, sequence)"),
    "texts": ("show_polytope(polytope)", "read_polytope(text)"),
    "macaulay": ("expansion(number, degree)", "most_next(number, degree)", "first_fault(sequence)",
                 "is_m_sequence(sequence)"),
    "monomials": ("monomials(variables, degree)", "is_order_ideal(variables, value)", "compressed(sequence)",
                  "counts_of(variables, ideal)"),
    "facerows": ("why_none(dimension, row)", "is_face_row(dimension, row)", "rows_with(dimension, points)",
                 "most_row(dimension, points)", "least_row(dimension, points)"),
    "making": ("line_of(dimension, points)", "made(dimension, row)"),
    "rings": ("base_of(polytope)", "forms_of(polytope)", "rank_of(polytope, degree)", "taken(polytope)",
              "told_by(polytope, monomial)"),
    "stresses": ("edges_of(polytope)", "is_stress(polytope, value)", "stresses_of(polytope)"),
    "supports": ("is_supporting(polytope, face, value)", "is_barring(polytope, face, value)", "supporting(polytope, face)",
                 "barring(polytope, face)"),
    "radon": ("radon_parts(polytope)", "dependence_of(polytope)"),
    "shellings": ("line_ordering(polytope, direction)", "restrictions(polytope, ordering)",
                  "is_shelling(polytope, ordering)"),
    "stacking": ("blocks_of(polytope, number)", "is_stacked(polytope, number)", "volume(polytope)",
                 "volume_of(polytope, face)"),
    "sums": ("free_sum(polytope, other)", "stacked_on(polytope, facet)"),
    "checker": ("accepts(claim, paper)",),
    "certificates": ("certify_row(dimension, row)", "certify_sequence(sequence)", "certify_face(polytope, face)",
                     "certify_counted(polytope)", "certify_ordering(polytope, ordering)",
                     "certify_stacked(polytope, number)"),
    "console": ("fresh_console()", "said(console, line)", "told_all(console, lines)"),
}

# Right arguments, by their names, for a call of each function.
RIGHT = {
    "polytope": OCTA, "facet": (0, 2, 4), "face": (0, 2), "many": 2, "dimension": 3, "row": (6, 12, 8),
    "text": "dimension 2\npoint 0 0\npoint 1 0\npoint 0 1",
    "sequence": (1, 2), "number": 1, "degree": 1, "variables": 2, "ideal": ((),), "points": 6, "monomial": (1,),
    "direction": ((4, 1), (2, 1), (1, 1)), "ordering": facets_of(OCTA), "other": SQUARE, "claim": (), "paper": (), "value": (),
    "console": (None, ()), "line": "g", "lines": (),
}
NEVER_REFUSED = ("value", "claim", "paper")


def functions():
    for module, told in INTERFACE.items():
        for signature in told:
            name = signature[:signature.index("(")]
            yield module, name, signature, getattr(importlib.import_module(f"facenumbers.{module}"), name)


class Interface(unittest.TestCase):
    def test_names_and_arguments(self):
        for module, name, signature, function in functions():
            self.assertEqual(f"{name}{inspect.signature(function)}", signature)
            self.assertTrue(inspect.isfunction(function))

    def test_defined_in_the_file_that_lists_it(self):
        folder = os.path.dirname(facenumbers.__file__)
        for module, told in INTERFACE.items():
            with open(os.path.join(folder, f"{module}.py"), encoding="ascii") as file:
                defined = {node.name for node in ast.parse(file.read()).body if isinstance(node, ast.FunctionDef)}
            self.assertLessEqual({signature[:signature.index("(")] for signature in told}, defined)

    def test_each_argument_by_name(self):
        for _, _, _, function in functions():
            names = list(inspect.signature(function).parameters)
            self.same(lambda: function(*[RIGHT[name] for name in names]),
                      lambda: function(**{name: RIGHT[name] for name in reversed(names)}))

    def same(self, one, two):
        told = []
        for call in (one, two, one):
            try:
                told.append(call())
            except FaceError as error:
                told.append((type(error), vars(error)))
        self.assertEqual(told[0], told[1])
        self.assertEqual(told[0], told[2])


class AnyValues(unittest.TestCase):
    def values(self):
        deep, listed = (), []
        for _ in range(18):
            deep, listed = (deep, 1), [listed]
        return JUNK + (deep, listed, (2, deep), (3, (deep,) * 6), 10 ** 3000, (10 ** 3000,), -1, 10 ** 6 + 1, (1,) * 2000,
                       "x" * 1000, OCTA, list(OCTA), (OCTA,), ((),), (((),),), ("",), ({},), ((1, 2), [3]), True)

    def test_errors_keep_what_was_passed(self):
        for _, name, _, function in functions():
            names = list(inspect.signature(function).parameters)
            for place, parameter in enumerate(names):
                for value in self.values():
                    given = [RIGHT[one] for one in names]
                    given[place] = value
                    if parameter != "console":
                        self.one_call(function, given, parameter, value)

    def one_call(self, function, given, parameter, value):
        """Nothing but an answer or one of the package's errors, and the argument as it was."""
        before = repr(value)
        try:
            answer = function(*given)
            if parameter in NEVER_REFUSED:
                self.assertIs(type(answer), bool)
        except FaceError as error:
            self.assertNotIn(parameter, NEVER_REFUSED[1:])
            self.assertIn(list(vars(error)), (["given"], ["index"]))
        self.assertEqual(repr(value), before)


class TheGTheorem(unittest.TestCase):
    def test_for_every_g_row_in_a_box(self):
        for dimension, points in EVERY:
            half = dimension // 2
            rows = set(rows_with(dimension, points))
            tops = [comb(points - dimension + at, at + 2) + 1 for at in range(half - 1)]
            for rest in product(*[range(-1, top + 1) for top in tops]):
                g = (1, points - dimension - 1) + rest
                row = row_of(dimension, g)
                self.assertIs(is_face_row(dimension, row), is_m_sequence(g), g)
                self.assertIs(row in rows, is_m_sequence(g))
                claim, paper = certify_row(dimension, row)
                self.assertIs(accepts(claim, paper), True)
                self.assertEqual(claim[0], "face row" if is_m_sequence(g) else "no face row")

    def test_only_symmetric_rows(self):
        for dimension, points in EVERY:
            for row in rows_with(dimension, points)[::5]:
                for at in range(1, dimension):
                    for change in (-1, 1):
                        other = row[:at] + (row[at] + change,) + row[at + 1:]
                        h = h_row(dimension, other)
                        self.assertIs(why_none(dimension, other)[0] == "unlike", h != h[::-1])

    def test_what_is_made_has_the_row(self):
        for dimension, points in EVERY:
            for row in rows_with(dimension, points)[::3]:
                value = made(dimension, row)
                self.assertIs(is_polytope(value), True)
                self.assertEqual(face_row(value), row)

    def test_for_every_polytope_monomials_that_its_g_row_counts(self):
        for value in list(some_polytopes().values()) + [shuffled(CROSS, 1), shuffled(TOPS, 2)]:
            g = g_row(value[0], face_row(value))
            variables = len(value[1]) - value[0] - 1
            ideal = taken(value)
            self.assertIs(is_order_ideal(variables, ideal), True)
            counts = counts_of(variables, ideal)
            self.assertEqual(counts + (0,) * (len(g) - len(counts)), g)
            self.assertEqual(tuple(rank_of(value, degree) for degree in range(len(g) + 1)), g + (0,))
            self.assertIs(accepts(*certify_counted(value)), True)

    def test_why_in_seven_sentences(self):
        # The numbers of monomials bound the g-numbers, and cyclic polytopes have them all.
        for dimension in range(2, 8):
            for more in range(4):
                value = cyclic(dimension, dimension + 1 + more)
                expected = tuple(len(monomials(more, degree)) for degree in range(dimension // 2 + 1))
                self.assertEqual(g_row(dimension, face_row(value)), expected)
        self.assertEqual(face_row(simplex(7)), tuple(comb(8, many) for many in range(1, 8)))
        self.assertEqual(face_row(SQUARE), (4, 4))


if __name__ == "__main__":
    unittest.main()
