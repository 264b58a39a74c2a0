"""Promises [32] to [34] and facenumbers/certificates.py: of two claims the one that is so, with a paper."""

import random
import unittest
from itertools import permutations, product

from facenumbers.certificates import (
    certify_counted, certify_face, certify_ordering, certify_row, certify_sequence, certify_stacked,
)
from facenumbers.checker import accepts
from facenumbers.errors import (
    InvalidFace, InvalidNumber, InvalidOrdering, InvalidPolytope, InvalidRow, InvalidSequence, TooMany,
)
from facenumbers.facerows import rows_with, why_none
from facenumbers.macaulay import first_fault, is_m_sequence
from facenumbers.making import made
from facenumbers.monomials import monomials
from facenumbers.polytopes import facets_of, is_face, is_polytope
from facenumbers.rings import taken
from facenumbers.rows import face_row, g_row, row_of
from facenumbers.shellings import is_shelling, line_ordering
from facenumbers.stacking import blocks_of
from tests.examples import (
    CROSS, JUNK, OCTA, SQUARE, TOPS, cyclic, is_plain, long_polytope, random_values, sets_lacking_some, shuffled, simplex,
    some_polytopes, stacked,
)
from tests.test_faces import NO_POLYTOPES, NO_SETS_OF_OCTA, raised
from tests.test_facerows import EVERY

OTHER = {"face row": "no face row", "M-sequence": "no M-sequence", "face": "no face", "shelling": "no shelling",
         "stacked": "not stacked"}
OTHER.update({two: one for one, two in OTHER.items()})


def is_plain_claim(claim):
    return type(claim) is tuple and type(claim[0]) is str and is_plain(claim[1:])


class Certificates(unittest.TestCase):
    def check(self, told, word, *parts):
        """The claim and the paper that were told; that the paper is accepted, and not for the other claim."""
        self.assertIs(type(told), tuple)
        claim, paper = told
        self.assertEqual(claim, (word,) + parts)
        self.assertTrue(is_plain_claim(claim))
        self.assertIs(accepts(claim, paper), True, told)
        if word in OTHER:
            self.assertIs(accepts((OTHER[word],) + parts, paper), False, told)
        return paper


class Rows(Certificates):
    def test_by_hand(self):
        self.assertEqual(certify_row(4, (7, 17, 20, 10)), (("no face row", 4, (7, 17, 20, 10)), ("below", 2)))
        claim, paper = certify_row(row=(7, 21, 28, 14), dimension=4)
        self.assertEqual(claim, ("face row", 4, (7, 21, 28, 14)))
        self.assertEqual(face_row(paper), (7, 21, 28, 14))

    def test_rows_of_polytopes(self):
        for dimension, points in EVERY:
            for row in rows_with(dimension, points):
                paper = self.check(certify_row(dimension, row), "face row", dimension, row)
                self.assertTrue(is_plain(paper))
        for value in some_polytopes().values():
            self.check(certify_row(value[0], face_row(value)), "face row", value[0], face_row(value))

    def test_rows_barred_in_each_way(self):
        found = set()
        source = random.Random(33)
        for dimension in range(2, 8):
            half = dimension // 2
            for _ in range(80):
                row = row_of(dimension, (1, source.randint(0, 3)) + tuple(source.randint(-2, 12) for _ in range(half - 1)))
                if source.random() < 0.3:
                    row = row[:1] + tuple(number + source.choice((-1, 0, 1)) for number in row[1:])
                bar = why_none(dimension, row)
                if bar is None:
                    self.check(certify_row(dimension, row), "face row", dimension, row)
                else:
                    found.add(bar)
                    self.assertEqual(self.check(certify_row(dimension, row), "no face row", dimension, row), bar)
        self.assertLessEqual({("unlike", 0), ("unlike", 1), ("below", 2), ("below", 3), ("too many", 2),
                              ("too many", 3)}, found)

    def test_all_small_rows(self):
        for row in product(range(4, 8), range(4, 17), range(3, 12)):
            word = "no face row" if why_none(3, row) else "face row"
            self.check(certify_row(3, row), word, 3, row)

    def test_wrong_arguments(self):
        for dimension in (None, True, 1, 8, "3", (3,), [3], 10 ** 40):
            error = raised(InvalidNumber, certify_row, dimension, (6, 12, 8))
            self.assertIs(error.given, dimension)
            self.assertEqual(list(vars(error)), ["given"])
            self.assertIs(raised(InvalidNumber, certify_row, row=None, dimension=dimension).given, dimension)
        for row in JUNK + ((6, 12), (6, 12, 8, 1), [6, 12, 8], (6, 12, True), (6, 12, "8"), (3, 3, 2), (8, 18, 12),
                           (6, 10 ** 9 + 1, 8), (6, -10 ** 9 - 1, 8), (True, 12, 8)):
            error = raised(InvalidRow, certify_row, 3, row)
            self.assertIs(error.given, row)
            self.assertIs(raised(InvalidRow, certify_row, row=row, dimension=3).given, row)


class Sequences(Certificates):
    def test_by_hand(self):
        self.assertEqual(certify_sequence((1, 2, 4)), (("no M-sequence", (1, 2, 4)), 2))
        self.assertEqual(certify_sequence(sequence=(1, 2, 1)), (("M-sequence", (1, 2, 1)), ((), (1,), (2,), (1, 1))))
        self.assertEqual(certify_sequence((1,)), (("M-sequence", (1,)), ((),)))
        self.assertEqual(certify_sequence((1, 0, 0)), (("M-sequence", (1, 0, 0)), ((),)))

    def test_all_small_sequences(self):
        faults = set()
        for length in range(1, 6):
            for rest in product(range(-1, 5), repeat=length - 1):
                for first in (0, 1, 2) if length < 4 else (1,):
                    sequence = (first,) + rest
                    fault = first_fault(sequence)
                    faults.add(fault)
                    if fault is None:
                        self.check(certify_sequence(sequence), "M-sequence", sequence)
                    else:
                        self.assertEqual(self.check(certify_sequence(sequence), "no M-sequence", sequence), fault)
        self.assertEqual(faults, {None, 0, 1, 2, 3, 4})

    def test_a_fault_at_each_place(self):
        for place in range(8):
            sequence = (1,) + (2,) * 7
            wrong = sequence[:place] + (-1 if place else 5,) + sequence[place + 1:]
            self.assertEqual(self.check(certify_sequence(wrong), "no M-sequence", wrong), place)
            if place > 1:
                wrong = sequence[:place] + (99,) + sequence[place + 1:]
                self.assertEqual(self.check(certify_sequence(wrong), "no M-sequence", wrong), place)

    def test_more_than_500_monomials(self):
        for variables in (4, 5, 6):
            sequence = tuple(len(monomials(variables, degree)) for degree in range(7))
            self.assertGreater(sum(sequence), 200)
            paper = self.check(certify_sequence(sequence), "M-sequence", sequence)
            self.assertEqual(len(paper), sum(sequence))
        sequence += (792,)
        self.assertEqual(len(self.check(certify_sequence(sequence), "M-sequence", sequence)), 1716)

    def test_too_many_variables(self):
        self.check(certify_sequence((1, 6)), "M-sequence", (1, 6))
        for many in (7, 8, 100, 10 ** 6):
            for rest in ((), (0,), (5, 2)):
                error = raised(TooMany, certify_sequence, (1, many) + rest)
                self.assertEqual(vars(error), {"given": many})
                self.assertEqual(raised(TooMany, certify_sequence, sequence=(1, many) + rest).given, many)
        # Only of M-sequences: what is none has its index as a paper.
        self.check(certify_sequence((1, 7, -1)), "no M-sequence", (1, 7, -1))
        self.check(certify_sequence((1, 10 ** 6, 3, 99)), "no M-sequence", (1, 10 ** 6, 3, 99))
        self.check(certify_sequence((2, 7)), "no M-sequence", (2, 7))

    def test_wrong_arguments(self):
        for sequence in (None, [], [1, 2], (), (1,) * 9, "12", 12, {1: 2}, b"12"):
            error = raised(InvalidSequence, certify_sequence, sequence)
            self.assertIs(error.index, None)
            self.assertEqual(list(vars(error)), ["index"])
        for sequence, index in (((1, "2"), 1), ((True, 2), 0), ((1, 2, 10 ** 6 + 1), 2), ((1, -10 ** 6 - 1, None), 1),
                                ((9, 9, False), 2), ((1, (2,)), 1)):
            self.assertEqual(raised(InvalidSequence, certify_sequence, sequence).index, index)
            self.assertEqual(raised(InvalidSequence, certify_sequence, sequence=sequence).index, index)


class Faces(Certificates):
    def test_each_set(self):
        for value in (SQUARE, OCTA, TOPS, simplex(3), stacked(3, 2), cyclic(4, 6), shuffled(cyclic(3, 6), 2)):
            for face in sets_lacking_some(len(value[1])):
                word = "face" if is_face(value, face) else "no face"
                self.check(certify_face(value, face), word, value, face)

    def test_all_dimensions(self):
        for value in some_polytopes().values():
            sets = sets_lacking_some(len(value[1]))
            for face in sets[::len(sets) // 4 + 1]:
                word = "face" if is_face(value, face) else "no face"
                self.check(certify_face(face=face, polytope=value), word, value, face)

    def test_numbers_of_40_figures(self):
        value = long_polytope(47, 4, 7)
        for face in sets_lacking_some(7)[::9]:
            word = "face" if is_face(value, face) else "no face"
            self.check(certify_face(value, face), word, value, face)

    def test_wrong_arguments(self):
        for face in NO_SETS_OF_OCTA + ((0, 1, 2, 3, 4, 5),):
            error = raised(InvalidFace, certify_face, OCTA, face)
            self.assertIs(error.given, face)
            self.assertEqual(list(vars(error)), ["given"])
            self.assertIs(raised(InvalidFace, certify_face, face=face, polytope=OCTA).given, face)


class Counted(Certificates):
    def test_as_told(self):
        for value in some_polytopes().values():
            paper = self.check(certify_counted(value), "counted by", value, taken(value))
            self.assertEqual(paper, ())
        self.assertEqual(certify_counted(polytope=CROSS)[0][2], ((), (1,), (2,), (3,), (1, 2), (1, 3)))

    def test_made_ones(self):
        for dimension, points in EVERY:
            for row in rows_with(dimension, points)[::6]:
                value = shuffled(made(dimension, row), 3)
                ideal = self.check(certify_counted(value), "counted by", value, taken(value))
                self.assertEqual(ideal, ())

    def test_random_ones(self):
        for dimension, points, width in ((2, 6, 9), (3, 6, 4), (4, 7, 4), (5, 8, 4)):
            for value in random_values(48, dimension, points, width, 12):
                if is_polytope(value):
                    self.check(certify_counted(value), "counted by", value, taken(value))

    def test_numbers_of_40_figures(self):
        for dimension, points in ((2, 6), (3, 7), (4, 7)):
            value = long_polytope(49, dimension, points)
            self.check(certify_counted(value), "counted by", value, taken(value))


class Orderings(Certificates):
    def test_all_orderings_of_small_ones(self):
        for value in (SQUARE, simplex(2), simplex(3), cyclic(2, 5)):
            words = set()
            for ordering in permutations(facets_of(value)):
                word = "shelling" if is_shelling(value, ordering) else "no shelling"
                words.add(word)
                self.check(certify_ordering(value, ordering), word, value, ordering)
            self.assertIn("shelling", words)

    def test_line_orderings_and_others(self):
        source = random.Random(50)
        words = []
        for value in some_polytopes().values():
            direction = tuple((source.randint(-99, 99), 101) for _ in range(value[0]))
            direction = tuple((0, 1) if one[0] == 0 else one for one in direction)
            shelling = line_ordering(value, (((10 ** 9, 7),) + direction[1:]))
            self.assertEqual(self.check(certify_ordering(value, shelling), "shelling", value, shelling), ())
            for _ in range(3):
                ordering = list(facets_of(value))
                source.shuffle(ordering)
                word = "shelling" if is_shelling(value, tuple(ordering)) else "no shelling"
                words.append(word)
                self.check(certify_ordering(ordering=tuple(ordering), polytope=value), word, value, tuple(ordering))
        self.assertEqual(set(words), {"shelling", "no shelling"})

    def test_wrong_arguments(self):
        for ordering in JUNK + (facets_of(OCTA)[1:], list(facets_of(OCTA)), facets_of(OCTA)[:7] + ((True, 3, 5),),
                                facets_of(OCTA) * 2, facets_of(SQUARE)):
            error = raised(InvalidOrdering, certify_ordering, OCTA, ordering)
            self.assertIs(error.given, ordering)
            self.assertEqual(list(vars(error)), ["given"])
            self.assertIs(raised(InvalidOrdering, certify_ordering, ordering=ordering, polytope=OCTA).given, ordering)


class Stacked(Certificates):
    def test_each_number(self):
        found = set()
        for value in some_polytopes().values():
            g = g_row(value[0], face_row(value))
            for number in range(1, value[0] // 2 + 1):
                word = "not stacked" if g[number] else "stacked"
                paper = self.check(certify_stacked(value, number), word, value, number)
                found.add((word, number))
                if word == "stacked":
                    self.assertEqual(paper, blocks_of(value, number))
                else:
                    self.assertEqual(len(paper), number)
        self.assertEqual(found, {(word, number) for word in ("stacked", "not stacked") for number in (1, 2, 3)})

    def test_made_ones(self):
        for dimension, points in ((4, 8), (5, 8), (6, 9), (6, 10), (7, 11)):
            for row in rows_with(dimension, points)[::4]:
                value = made(dimension, row)
                for number in range(1, dimension // 2 + 1):
                    word = "not stacked" if g_row(dimension, row)[number] else "stacked"
                    self.check(certify_stacked(number=number, polytope=value), word, value, number)

    def test_numbers_of_40_figures(self):
        value = long_polytope(51, 4, 7)
        for number in (1, 2):
            self.check(certify_stacked(value, number), "not stacked", value, number)
        value = long_polytope(52, 5, 6)
        for number in (1, 2):
            self.check(certify_stacked(value, number), "stacked", value, number)

    def test_wrong_arguments(self):
        for value in (OCTA, SQUARE, CROSS, simplex(7)):
            for number in (0, -1, value[0] // 2 + 1, True, None, "1", (1,), 10 ** 40):
                error = raised(InvalidNumber, certify_stacked, value, number)
                self.assertIs(error.given, number)
                self.assertEqual(list(vars(error)), ["given"])
                self.assertIs(raised(InvalidNumber, certify_stacked, number=number, polytope=value).given, number)


class NoPolytopes(unittest.TestCase):
    def test_no_polytope(self):
        for value in NO_POLYTOPES:
            for call, rest in ((certify_face, ((0,),)), (certify_counted, ()), (certify_ordering, (((0, 1),),)),
                               (certify_stacked, (1,)), (certify_face, (None,)), (certify_ordering, (None,)),
                               (certify_stacked, (None,))):
                error = raised(InvalidPolytope, call, value, *rest)
                self.assertIs(error.given, value)
                self.assertEqual(list(vars(error)), ["given"])
        self.assertEqual(raised(InvalidPolytope, certify_face, face=None, polytope=5).given, 5)
        self.assertEqual(raised(InvalidPolytope, certify_ordering, ordering=None, polytope=5).given, 5)
        self.assertEqual(raised(InvalidPolytope, certify_stacked, number=None, polytope=5).given, 5)
        self.assertEqual(raised(InvalidPolytope, certify_counted, polytope=5).given, 5)

    def test_m_sequences_of_all_polytopes(self):
        for value in some_polytopes().values():
            g = g_row(value[0], face_row(value))
            self.assertIs(is_m_sequence(g), True)
            self.assertIs(accepts(("M-sequence", g), taken(value)), True)


if __name__ == "__main__":
    unittest.main()
