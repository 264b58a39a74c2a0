"""Promises [32], [33] and [34]: which papers are accepted for which claims; [4] and [6] for accepts."""

import random
import unittest
from fractions import Fraction
from itertools import combinations

from facenumbers.checker import accepts
from facenumbers.facerows import rows_with, why_none
from facenumbers.macaulay import first_fault, most_next
from facenumbers.making import made
from facenumbers.monomials import compressed, is_order_ideal, monomials
from facenumbers.polytopes import facets_of
from facenumbers.rings import told_by
from facenumbers.rows import face_row, g_row, h_row, row_of
from facenumbers.shellings import line_ordering
from facenumbers.stacking import blocks_of
from facenumbers.stresses import edges_of, stresses_of
from facenumbers.supports import barring, supporting
from tests.examples import (
    CROSS, JUNK, OCTA, SQUARE, TOPS, cyclic, faces_by_definition, pointed, rank, ratio,
    sets_lacking_some, sheared, shuffled, simplex, stacked, stretched, times, with_number,
)
from tests.test_rings import relations, taken_by_definition, variables_of
from tests.test_shellings import exchanged, is_shelling_by_definition, restrictions_by_definition
from tests.test_stacking import blocks_by_definition, simplex_by_definition, volume_by_definition
from tests.test_stresses import sums
from tests.test_supports import bars_by_definition, supports_by_definition

ONE, NONE, LESS = (1, 1), (0, 1), (-1, 1)
WORDS = ("face row", "no face row", "M-sequence", "no M-sequence", "row of", "face", "no face", "counted by",
         "told by", "shelling", "no shelling", "stacked", "not stacked", "stress", "no stress")
BOTH = {"face row": "no face row", "M-sequence": "no M-sequence", "face": "no face", "shelling": "no shelling",
        "stacked": "not stacked", "stress": "no stress"}
WAY = line_ordering(OCTA, ((4, 1), (2, 1), (1, 1)))
BROKEN = ((0, 2, 4), (1, 3, 5)) + WAY[1:7]
CORNER = (ONE, LESS, LESS, NONE)
ACROSS = (LESS, LESS, ONE, ONE, NONE, NONE)
COUNTED = ((), (1,), (2,), (3,), (1, 2), (1, 3))
TILES = ((0, 1, 2, 3, 4), (0, 1, 2, 3, 5))
STRESS = stresses_of(CROSS)[0]
BENT = with_number(STRESS, 0, (7, 3))
CYCLIC = cyclic(4, 7)

# Claims, each with papers that are accepted.
RIGHT = [
    (("face row", 3, (6, 12, 8)), [OCTA, shuffled(OCTA, 1), cyclic(3, 6), made(3, (6, 12, 8)), stacked(3, 2)]),
    (("face row", 2, (4, 4)), [SQUARE, cyclic(2, 4)]),
    (("face row", 4, (8, 24, 32, 16)), [CROSS, made(4, (8, 24, 32, 16))]),
    (("face row", 7, face_row(simplex(7))), [simplex(7)]),
    (("no face row", 4, (7, 22, 30, 15)), [("too many", 2)]),
    (("no face row", 4, (7, 17, 20, 10)), [("below", 2)]),
    (("no face row", 4, (7, 19, 24, 13)), [("unlike", 0), ("unlike", 4)]),
    (("no face row", 6, row_of(6, (1, 2, 1, 2))), [("too many", 3)]),
    (("no face row", 6, row_of(6, (1, 2, 4, -1))), [("too many", 2), ("below", 3)]),
    (("no face row", 6, row_of(6, (1, 1, -1, 9))), [("below", 2)]),
    (("no face row", 3, (6, 13, 8)), [("unlike", 0), ("unlike", 3), ("unlike", 1), ("unlike", 2)]),
    (("M-sequence", (1, 2, 1)), [((), (1,), (2,), (2, 2)), ((), (1,), (2,), (1, 1)), ((), (1,), (2,), (1, 2))]),
    (("M-sequence", (1,)), [((),)]),
    (("M-sequence", (1, 0, 0)), [((),)]),
    (("M-sequence", (1, 3, 2, 0)), [compressed((1, 3, 2)), COUNTED]),
    (("M-sequence", (1, 1, 1, 1, 1, 1, 1, 1)), [tuple((1,) * many for many in range(8))]),
    (("no M-sequence", (1, 2, 4)), [2]),
    (("no M-sequence", (2, -1, 4)), [0, 1]),
    (("no M-sequence", (1, 3, 1, 2, -1, 3)), [3, 4]),
    (("no M-sequence", (0,)), [0]),
    (("row of", OCTA, (6, 12, 8)), [()]),
    (("row of", CYCLIC, (7, 21, 28, 14)), [()]),
    (("face", OCTA, (0, 2)), [CORNER, times(CORNER, 7), times(CORNER, Fraction(1, 10 ** 50)), supporting(OCTA, (0, 2)),
                              ((2, 1), (-2, 1), (-2, 1), ONE)]),
    (("face", OCTA, ()), [(ONE, NONE, NONE, NONE), ((2, 1), LESS, NONE, NONE), supporting(OCTA, ())]),
    (("no face", OCTA, (0, 1)), [ACROSS, (LESS, LESS, NONE, NONE, ONE, ONE), times(ACROSS, Fraction(3, 8)),
                                 ((-3, 1), (-3, 1), ONE, ONE, (2, 1), (2, 1))]),
    (("no face", TOPS, (0, 1, 4, 5)), [barring(TOPS, (0, 1, 4, 5))]),
    (("counted by", CROSS, COUNTED), [()]),
    (("counted by", CROSS, COUNTED[:4] + ((1, 2), (2, 3))), [()]),
    (("counted by", simplex(5), ((),)), [()]),
    (("counted by", TOPS, ((), (1,))), [()]),
    (("told by", CROSS, (2, 3), (((1, 2), LESS), ((1, 3), LESS))), [()]),
    (("told by", CROSS, (2, 3), (((2, 3), ONE),)), [()]),
    (("told by", CROSS, (2, 2), ()), [()]),
    (("told by", CROSS, (2, 2), (((1, 1), (10 ** 50, 3)),)), [()]),
    (("told by", CROSS, (1, 2, 3), ()), [()]),
    (("told by", CROSS, (), (((), ONE),)), [()]),
    (("shelling", OCTA, WAY), [()]),
    (("shelling", OCTA, WAY[::-1]), [()]),
    (("no shelling", OCTA, BROKEN), [(1, 0)]),
    (("stacked", TOPS, 2), [TILES]),
    (("stacked", simplex(6), 1), [((0, 1, 2, 3, 4, 5, 6),)]),
    (("stacked", stacked(6, 2), 3), [blocks_of(stacked(6, 2), 3)]),
    (("not stacked", CROSS, 2), [(1, 2), (1, 3), (2, 3)]),
    (("not stacked", OCTA, 1), [(1,), (2,)]),
    (("stress", CROSS, STRESS), [()]),
    (("stress", OCTA, (NONE,) * 12), [()]),
    (("no stress", OCTA, (ONE,) * 12), [(0, 0), (1, 0), (2, 1), (3, 1), (4, 2), (5, 2)]),
]
PAPERS = [paper for _, papers in RIGHT for paper in papers]
POLYTOPES = [paper for claim, papers in RIGHT if claim[0] == "face row" for paper in papers]


class Definition:
    """What [33] and [34] say of a claim that is one, and any paper: a function of the paper is worked out once."""

    def __init__(self, claim):
        name = claim[0].replace(" ", "_").replace("-", "_").lower()
        self.accepts = getattr(self, name)(*claim[1:])

    def face_row(self, dimension, row):
        return lambda paper: is_a_polytope(paper) and paper[0] == dimension and face_row(paper) == row

    def no_face_row(self, dimension, row):
        h, g = h_row(dimension, row), g_row(dimension, row)
        found = [("unlike", at) for at in range(dimension + 1) if h[at] != h[dimension - at]]
        found += [("below", at) for at in range(1, len(g)) if g[at] < 0]
        found += [("too many", at) for at in range(2, len(g)) if g[at - 1] >= 0 and g[at] > most_next(g[at - 1], at - 1)]
        return lambda paper: paper in found

    def m_sequence(self, sequence):
        variables = sequence[1] if len(sequence) > 1 else 0

        def said(paper):
            if not 0 <= variables <= 6 or not is_order_ideal(variables, paper):
                return False
            counts = [sum(len(one) == degree for one in paper) for degree in range(len(sequence))]
            return tuple(counts) == sequence and sum(counts) == len(paper)
        return said

    def no_m_sequence(self, sequence):
        found = [0] if sequence[0] != 1 else []
        found += [at for at, number in enumerate(sequence) if number < 0]
        found += [at for at in range(2, len(sequence))
                  if sequence[at - 1] >= 0 and sequence[at] > most_next(sequence[at - 1], at - 1)]
        return lambda paper: type(paper) is int and paper in found

    def row_of(self, value, row):
        return self.nothing(face_row(value) == row)

    def nothing(self, said):
        return lambda paper: paper == () and said

    def face(self, value, face):
        return lambda paper: is_of_ratios(paper, value[0] + 1) and supports_by_definition(value, face, paper)

    def no_face(self, value, face):
        return lambda paper: is_of_ratios(paper, len(value[1])) and bars_by_definition(value, face, paper)

    def counted_by(self, value, ideal):
        half = value[0] // 2
        if max(map(len, ideal)) > half:
            return self.nothing(False)
        for degree in range(half + 1):
            order, rows = relations(value, degree)
            chosen = [one for one in ideal if len(one) == degree]
            units = [[Fraction(one == other) for other in order] for one in chosen]
            if len(order) - rank(rows) != len(chosen) or rank(rows + units) != len(order):
                return self.nothing(False)
        order, rows = relations(value, half + 1)
        return self.nothing(rank(rows) == len(order))

    def told_by(self, value, monomial, pairs):
        order, rows = relations(value, len(monomial))
        difference = [Fraction(one == monomial) for one in order]
        for one, number in pairs:
            difference[order.index(one)] -= Fraction(*number)
        return self.nothing(rank(rows + [difference]) == rank(rows))

    def shelling(self, value, ordering):
        return self.nothing(is_shelling_by_definition(ordering))

    def no_shelling(self, value, ordering):
        told = restrictions_by_definition(ordering)
        found = [(at, ahead) for at in range(len(ordering)) for ahead in range(at)
                 if set(told[at]) <= set(ordering[at]) & set(ordering[ahead])]
        return lambda paper: paper in found

    def stacked(self, value, number):
        blocks = blocks_by_definition(value, number)
        tiled = sum(simplex_by_definition(value, block) for block in blocks) == volume_by_definition(value)
        return lambda paper: tiled and paper == blocks

    def not_stacked(self, value, number):
        order, rows = relations(value, number)
        found = [one for one in order
                 if rank(rows + [[Fraction(one == other) for other in order]]) > rank(rows)]
        return lambda paper: paper in found

    def totals(self, value, ratios):
        return sums(value, edges_of(value), [Fraction(*number) for number in ratios])

    def stress(self, value, ratios):
        return self.nothing(not any(map(any, self.totals(value, ratios))))

    def no_stress(self, value, ratios):
        totals = self.totals(value, ratios)
        found = [(index, at) for index, row in enumerate(totals) for at, total in enumerate(row) if total != 0]
        return lambda paper: paper in found


def is_a_polytope(value):
    """Whether this is one of the polytopes that stand among the papers."""
    return any(value is one for one in POLYTOPES)


def is_of_ratios(value, many):
    return isinstance(value, tuple) and len(value) == many and all(
        isinstance(part, tuple) and len(part) == 2 and all(type(number) is int for number in part)
        and part[1] > 0 and part == ratio(Fraction(*part)) for part in value
    )


def changed(value, change):
    """All values in which the change has been made at one place, however deep it lies."""
    yield from change(value)
    if isinstance(value, tuple):
        for at, part in enumerate(value):
            for other in changed(part, change):
                yield value[:at] + (other,) + value[at + 1:]


def to_list(value):
    return [list(value)] if isinstance(value, tuple) else []


def to_truth(value):
    return [bool(value)] if type(value) is int and value in (0, 1) else []


def to_text(value):
    return [str(value)] if type(value) is int else []


def to_nothing(value):
    return [None, {}, {1: 2}, frozenset(), object()]


class RightPapers(unittest.TestCase):
    def test_each_kind_has_claims(self):
        self.assertEqual({claim[0] for claim, _ in RIGHT}, set(WORDS))

    def test_they_are_accepted(self):
        for claim, papers in RIGHT:
            for paper in papers:
                self.assertIs(accepts(claim, paper), True, (claim, paper))
                self.assertIs(accepts(paper=paper, claim=claim), True)

    def test_each_paper_with_each_claim(self):
        for claim, papers in RIGHT:
            defined = Definition(claim)
            for paper in PAPERS + [None, 0, 1, 2, 3, (), (0, 0), (0, 1), (1, 0), (2, 0), (1,), ((),)]:
                self.assertIs(accepts(claim, paper), bool(defined.accepts(paper)), (claim, paper))
            for paper in papers:
                self.assertTrue(defined.accepts(paper))

    def test_of_two_claims_at_most_one(self):
        for claim, papers in RIGHT:
            for one, two in list(BOTH.items()) + [(two, one) for one, two in BOTH.items()]:
                if claim[0] == one:
                    for paper in PAPERS + list(JUNK):
                        self.assertIs(accepts((two,) + claim[1:], paper), False, (claim, paper))

    def test_nothing_as_the_paper(self):
        for claim, papers in RIGHT:
            if papers == [()]:
                for paper in [one for one in PAPERS if one != ()] + list(JUNK):
                    if type(paper) is not tuple or paper:
                        self.assertIs(accepts(claim, paper), False, (claim, paper))


class WrongForms(unittest.TestCase):
    def test_lists_truths_texts_and_other_things_in_claims(self):
        for change in (to_list, to_truth, to_text, to_nothing):
            for claim, papers in RIGHT[::1 if change is not to_nothing else 5]:
                for other in changed(claim, change):
                    for paper in papers[:1]:
                        self.assertIs(accepts(other, paper), False, (other, paper))

    def test_lists_truths_texts_and_other_things_in_papers(self):
        for change in (to_list, to_truth, to_text, to_nothing):
            for claim, papers in RIGHT:
                for paper in papers:
                    for other in changed(paper, change):
                        self.assertIs(accepts(claim, other), False, (claim, other))

    def test_an_element_more_or_less(self):
        for claim, papers in RIGHT:
            for paper in papers:
                for other in (claim + ((),), claim + (paper,), claim[:-1], claim[1:], claim * 2, (claim,), claim[:1],
                              claim + (None,), ()):
                    self.assertIs(accepts(other, paper), False, (other, paper))

    def test_another_word(self):
        for claim, papers in RIGHT:
            for word in ("", "Face", "FACE ROW", claim[0] + " ", " " + claim[0], claim[0].upper(), "no " + claim[0],
                         claim[0].encode(), (claim[0],), [claim[0]], None, 0, 1, True, {}, {claim[0]: 1}, {1}, object()):
                if word != claim[0] and word not in list(BOTH.values()):
                    for paper in papers:
                        self.assertIs(accepts((word,) + claim[1:], paper), False, (word, paper))

    def test_what_stands_behind_one_word_behind_another(self):
        for claim, papers in RIGHT:
            for word in WORDS:
                other = (word,) + claim[1:]
                if word != claim[0]:
                    for paper in papers:
                        # Only claims of the same parts may be so, too.
                        if accepts(other, paper):
                            self.assertIn((claim[0], word), [("row of", "shelling")])

    def test_any_values(self):
        deep = ()
        for _ in range(18):
            deep = (1, deep)
        values = JUNK + (deep, [deep], "face row", ("face row",), ("face row", 3), ("face", OCTA), (OCTA,), OCTA)
        for claim in values:
            for paper in values:
                self.assertIs(accepts(claim, paper), False)
        for word in WORDS:
            for one in values:
                for two in (one, (6, 12, 8), OCTA, (), 1):
                    for claim in ((word,), (word, one), (word, one, two), (word, OCTA, one), (word, 3, one),
                                  (word, OCTA, one, two), (word, OCTA, two, one), (word, one, two, two)):
                        answer = accepts(claim, ())
                        self.assertIn(answer, (True, False))
                        self.assertIs(type(answer), bool)
                        if word not in ("row of", "told by"):
                            self.assertIs(answer, False, claim)

    def test_papers_of_any_kind(self):
        for claim, papers in RIGHT:
            said = Definition(claim).accepts
            for paper in JUNK:
                expected = type(paper) in (int, tuple) and bool(said(paper))
                self.assertIs(accepts(claim, paper), expected, (claim, paper))


class OfRows(unittest.TestCase):
    def test_bounds(self):
        for dimension, row, paper in ((3, (8, 18, 12), cyclic(3, 7)), (3, (3, 3, 2), OCTA), (3, (6, 12), OCTA),
                                      (3, (6, 12, 8, 0), OCTA), (8, face_row(simplex(7)), simplex(7)), (1, (2,), SQUARE),
                                      (4, (6, 12, 8), OCTA), (3, (4, 4), SQUARE), (3, (), OCTA)):
            self.assertIs(accepts(("face row", dimension, row), paper), False)
        for row in ((8, 10 ** 9, 5, 6), (8, 10 ** 9 + 1, 5, 6), (9, 30, 42, 21), (4, 5, 6, 7), (8, -10 ** 9, 5, 6),
                    (8, -10 ** 9 - 1, 5, 6)):
            said = all(abs(number) <= 10 ** 9 for number in row) and 5 <= row[0] <= 8
            self.assertIs(accepts(("no face row", 4, row), ("unlike", 0)), said, row)

    def test_each_place_of_what_is_wrong(self):
        source = random.Random(33)
        for dimension in range(2, 8):
            for _ in range(60):
                half = dimension // 2
                row = row_of(dimension, (1, source.randint(0, 3)) + tuple(source.randint(-3, 12) for _ in range(half - 1)))
                if source.random() < 0.3:
                    row = row[:1] + tuple(number + source.randint(-1, 1) for number in row[1:])
                claim = ("no face row", dimension, row)
                defined = Definition(claim)
                said = []
                for word in ("unlike", "below", "too many"):
                    for at in range(-2, dimension + 3):
                        said.append(accepts(claim, (word, at)))
                        self.assertIs(said[-1], defined.accepts((word, at)), (claim, word, at))
                self.assertIs(any(said), why_none(dimension, row) is not None)

    def test_wrong_words_and_places(self):
        claim = ("no face row", 4, (7, 19, 24, 13))
        for paper in (("unlike", 1), ("unlike", -1), ("unlike", 5), ("unlike", 10 ** 50), ("unlike", None), ("unlike",),
                      ("unlike", 0, 0), ["unlike", 0], ("Unlike", 0), (b"unlike", 0), (None, 0), ("unlike", False),
                      ("unlike", "0"), ("unlike", (0,)), "unlike", 0, ("below", 1), ("too many", 2), ("too many", 0),
                      ("below", 0), (0, "unlike")):
            self.assertIs(accepts(claim, paper), False, paper)
        self.assertIs(accepts(("no face row", 6, row_of(6, (1, 3, 1, 2))), ("too many", True)), False)
        self.assertIs(accepts(("no face row", 4, row_of(4, (1, 0, -1))), ("below", 2)), True)

    def test_another_polytope(self):
        for row in rows_with(4, 8):
            for other in rows_with(4, 8):
                self.assertIs(accepts(("face row", 4, row), made(4, other)), row == other)
        for paper in (SQUARE, CROSS, cyclic(3, 7), simplex(3), stacked(3, 3), OCTA[1], (3, OCTA[1][:5] + OCTA[1][:1]),
                      list(OCTA), (3, list(OCTA[1])), None, (6, 12, 8)):
            self.assertIs(accepts(("face row", 3, (6, 12, 8)), paper), False)


class OfSequences(unittest.TestCase):
    def test_bounds(self):
        for sequence, said in (((10 ** 6,), True), ((10 ** 6 + 1,), False), ((-10 ** 6,), True), ((-10 ** 6 - 1,), False),
                               ((0,) * 8, True), ((0,) * 9, False), ((), False)):
            self.assertIs(accepts(("no M-sequence", sequence), 0), said)
        self.assertIs(accepts(("M-sequence", (1,) * 9), tuple((1,) * many for many in range(9))), False)
        self.assertIs(accepts(("M-sequence", ()), ()), False)

    def test_as_defined(self):
        source = random.Random(34)
        for _ in range(300):
            sequence = (source.choice((1, 1, 1, 0, 2)),) + tuple(
                source.randint(-1, 4) for _ in range(source.randint(0, 7)))
            defined = Definition(("no M-sequence", sequence))
            said = []
            for at in range(-2, 10):
                said.append(accepts(("no M-sequence", sequence), at))
                self.assertIs(said[-1], defined.accepts(at), (sequence, at))
            self.assertIs(any(said), first_fault(sequence) is not None)
        for paper in (None, "2", (2,), [2], True, False, 10 ** 50, -1, 3, 1, 0):
            self.assertIs(accepts(("no M-sequence", (1, 2, 4)), paper), False)
        self.assertIs(accepts(("no M-sequence", (1, -1)), True), False)
        self.assertIs(accepts(("no M-sequence", (0, 1)), False), False)

    def test_wrong_ideals(self):
        claim = ("M-sequence", (1, 2, 1))
        for paper in (((), (1,), (1, 1)), ((), (1,), (2,)), ((), (1,), (2,), (1, 1), (1, 2)), ((), (2,), (1,), (1, 1)),
                      ((), (1,), (2,), (3, 3)), ((1,), (2,), (1, 1)), ((), (1,), (2,), (1, 1), (1, 1, 1)), ((),), (),
                      ((), (1,), (2,), (2, 1)), ((), (1,), (2,), (1, 1), (1, 1))):
            self.assertIs(accepts(claim, paper), False, paper)
        # Of a degree that the tuple does not tell.
        self.assertIs(accepts(("M-sequence", (1, 1)), ((), (1,), (1, 1))), False)
        self.assertIs(accepts(("M-sequence", (1, 1)), ((), (1,))), True)
        self.assertIs(accepts(("M-sequence", (1,)), ((), (1,))), False)
        self.assertIs(accepts(("M-sequence", (1, 2)), ((), (1,), (3,))), False)

    def test_up_to_six_variables(self):
        six, seven = [((),) + tuple((at,) for at in range(1, many + 1)) for many in (6, 7)]
        self.assertIs(accepts(("M-sequence", (1, 6)), six), True)
        self.assertIs(accepts(("M-sequence", (1, 7)), seven), False)
        self.assertIs(accepts(("M-sequence", (1, -1)), ((),)), False)
        self.assertIs(accepts(("M-sequence", (1, 10 ** 6)), seven), False)

    def test_all_monomials(self):
        every = tuple(one for degree in range(7) for one in monomials(6, degree))
        counts = tuple(len(monomials(6, degree)) for degree in range(7))
        self.assertIs(accepts(("M-sequence", counts), every), True)
        self.assertIs(accepts(("M-sequence", counts + (0,)), every), True)
        self.assertIs(accepts(("M-sequence", counts[:-1]), every), False)
        self.assertIs(accepts(("M-sequence", counts), every[:-1]), False)


class OfFaces(unittest.TestCase):
    def test_each_set(self):
        for value in (SQUARE, OCTA, TOPS, simplex(3)):
            faces = faces_by_definition(facets_of(value))
            for face in sets_lacking_some(len(value[1])):
                paper = supporting(value, face) if face in faces else barring(value, face)
                self.assertIs(accepts(("face", value, face), paper), face in faces)
                self.assertIs(accepts(("no face", value, face), paper), face not in faces)

    def test_no_claims(self):
        for face in ((0, 1, 2, 3, 4, 5), (2, 0), (0, 0), (0, 6), (-1, 0), (6,), None, 0, "02", (0, "2"), (0, None)):
            for paper in (CORNER, ACROSS, (NONE,) * 4, (NONE,) * 6, (ONE, NONE, NONE, NONE)):
                self.assertIs(accepts(("face", OCTA, face), paper), False)
                self.assertIs(accepts(("no face", OCTA, face), paper), False)


class OfRings(unittest.TestCase):
    values = {"square": SQUARE, "octa": OCTA, "cross": CROSS, "tops": TOPS, "simplex": simplex(4), "cyclic": CYCLIC,
              "stacked": stacked(4, 3), "cyclic 5": cyclic(5, 8), "cyclic 6": cyclic(6, 9)}

    def test_counted_by(self):
        said = []
        for value in self.values.values():
            half = value[0] // 2
            ideals = [taken_by_definition(value)]
            ideals.append(compressed(g_row(value[0], face_row(value))))
            ideals.append(((),) + tuple((at,) for at in range(1, variables_of(value) + 1)))
            ideals.append(tuple(one for degree in range(half + 1) for one in monomials(variables_of(value), degree)))
            ideals.append(ideals[0] + ((1,) * (half + 1),))
            for drop in range(1, len(ideals[0])):
                ideals.append(ideals[0][:drop] + ideals[0][drop + 1:])
            for ideal in ideals:
                expected = is_order_ideal(variables_of(value), ideal) and Definition(
                    ("counted by", value, ideal)).accepts(())
                said.append(accepts(("counted by", value, ideal), ()))
                self.assertIs(said[-1], expected, (value, ideal))
        self.assertGreater(said.count(True), len(self.values))
        self.assertGreater(said.count(False), len(self.values))

    def test_counted_by_any_basis(self):
        for value in (CROSS, sheared(CROSS, 3), CYCLIC, made(4, (8, 25, 34, 17)), stretched(CROSS, 3, 1)):
            pairs = monomials(3, 2)
            for many in range(4):
                for lot in combinations(pairs, many):
                    ideal = monomials(3, 0) + monomials(3, 1) + lot
                    if variables_of(value) == 3:
                        claim = ("counted by", value, ideal)
                        self.assertIs(accepts(claim, ()), Definition(claim).accepts(()), ideal)

    def test_counted_by_no_ideal(self):
        for ideal in (COUNTED[1:], COUNTED[:3] + COUNTED[4:], COUNTED + COUNTED[-1:], COUNTED[::-1], list(COUNTED), (),
                      COUNTED[:5] + ((3, 1),), COUNTED[:5] + ((1, 4),), ((), ()), None, COUNTED[:5]):
            self.assertIs(accepts(("counted by", CROSS, ideal), ()), False)

    def test_told_by(self):
        for value in self.values.values():
            for degree in range(value[0] // 2 + 2):
                for monomial in monomials(variables_of(value), degree)[:6]:
                    pairs = told_by(value, monomial) if degree <= value[0] // 2 else ()
                    self.assertIs(accepts(("told by", value, monomial, pairs), ()), True)
                    self.assertIs(accepts(("told by", value, monomial, ((monomial, ONE),)), ()), True)
                    for at, (one, number) in enumerate(pairs):
                        other = with_number(pairs, at, (one, ratio(Fraction(*number) + Fraction(1, 9))))
                        self.assertIs(accepts(("told by", value, monomial, other), ()), False)
                        other = pairs[:at] + pairs[at + 1:]
                        self.assertIs(accepts(("told by", value, monomial, other), ()), False)

    def test_told_by_as_defined(self):
        source = random.Random(35)
        said = []
        for value in self.values.values():
            for _ in range(40):
                degree = source.randint(0, value[0] // 2 + 1)
                order = monomials(variables_of(value), degree)
                if order:
                    lot = sorted(source.sample(range(len(order)), source.randint(0, min(3, len(order)))))
                    numbers = [ratio(Fraction(source.choice((-1, 1, 1, 2)), source.choice((1, 1, 2)))) for _ in lot]
                    pairs = tuple((order[at], number) for at, number in zip(lot, numbers))
                    claim = ("told by", value, source.choice(order), pairs)
                    said.append(accepts(claim, ()))
                    self.assertIs(said[-1], Definition(claim).accepts(()), claim)
        self.assertEqual(set(said), {True, False})

    def test_told_by_in_wrong_forms(self):
        right = (((1, 2), LESS), ((1, 3), LESS))
        self.assertIs(accepts(("told by", CROSS, (2, 3), right), ()), True)
        half = (-1, 2)
        for pairs in ((((1, 2), half), ((1, 2), half), ((1, 3), LESS)), right[::-1], right + right[-1:],
                      right[:1] + right, (((1, 1), NONE),) + right,
                      (((1,), ONE),) + right, (((1, 2), LESS), ((1, 3), (-2, 2))), (((2, 1), LESS), ((1, 3), LESS)),
                      (((1, 2), LESS), ((1, 4), LESS)), (((1, 2), -1), ((1, 3), -1)), right + ((1, 2),), right + (None,),
                      (((1, 2), LESS, 0), ((1, 3), LESS)), (((1, 2),), ((1, 3), LESS)), None, 0, dict(right)):
            self.assertIs(accepts(("told by", CROSS, (2, 3), pairs), ()), False, pairs)
        for monomial in ((3, 2), (2, 4), (0, 2), (2,), (1, 2, 3, 3), None, 23, "23", (2, 3, 3)):
            self.assertIs(accepts(("told by", CROSS, monomial, right), ()), False, monomial)
        # Of degree M + 1 all is nought, of greater degrees nothing is told.
        self.assertIs(accepts(("told by", CROSS, (1, 2, 3), ()), ()), True)
        self.assertIs(accepts(("told by", CROSS, (1, 2, 3), (((1, 1, 1), (5, 3)),)), ()), True)
        self.assertIs(accepts(("told by", CROSS, (1, 2, 3, 3), ()), ()), False)
        self.assertIs(accepts(("told by", simplex(4), (), (((), ONE),)), ()), True)
        self.assertIs(accepts(("told by", simplex(4), (), ()), ()), False)
        self.assertIs(accepts(("told by", simplex(4), (), (((), (2, 1)),)), ()), False)

    def test_not_stacked(self):
        for value in self.values.values():
            for number in range(-1, value[0] // 2 + 3):
                claim = ("not stacked", value, number)
                for degree in range(value[0] // 2 + 2):
                    for monomial in monomials(variables_of(value), degree):
                        expected = 1 <= number <= value[0] // 2 and Definition(claim).accepts(monomial)
                        self.assertIs(accepts(claim, monomial), expected, (claim, monomial))
        for paper in ((1, 1), (2, 1), (1, 4), (1,), (1, 2, 3), (0, 1), None, 12, "12"):
            self.assertIs(accepts(("not stacked", CROSS, 2), paper), False)


class OfOrderings(unittest.TestCase):
    def test_two_facets_exchanged(self):
        found = set()
        for one, two in combinations(range(8), 2):
            ordering = exchanged(WAY, one, two)
            shelling = ("shelling", OCTA, ordering)
            self.assertIs(accepts(shelling, ()), is_shelling_by_definition(ordering))
            broken = ("no shelling", OCTA, ordering)
            defined = Definition(broken)
            said = []
            for at in range(-2, 10):
                for ahead in range(-2, 10):
                    said.append(accepts(broken, (at, ahead)))
                    self.assertIs(said[-1], defined.accepts((at, ahead)))
            self.assertIs(any(said), not accepts(shelling, ()))
            found.add(said.count(True))
        self.assertGreater(len(found), 2)

    def test_other_papers(self):
        for paper in (1, (1,), (1, 0, 0), (0, 1), (1, 1), (0, 0), (1, -1), (8, 0), (-1, 0), (1, False), (True, 0),
                      [1, 0], ("1", "0"), None, (), ((1, 0),), (10 ** 50, 0)):
            self.assertIs(accepts(("no shelling", OCTA, BROKEN), paper), False, paper)

    def test_no_orderings(self):
        for ordering in (WAY[:7], WAY + WAY[:1], list(WAY), WAY[:7] + ((True, 3, 5),), WAY[:7] + ((5, 3, 1),), (), None,
                         WAY[:7] + WAY[:1], facets_of(SQUARE)):
            self.assertIs(accepts(("shelling", OCTA, ordering), ()), False)
            for paper in ((1, 0), (7, 0), (), (7, 6)):
                self.assertIs(accepts(("no shelling", OCTA, ordering), paper), False)


class OfStackedOnes(unittest.TestCase):
    def test_blocks(self):
        self.assertIs(accepts(("stacked", TOPS, 2), TILES), True)
        for paper in (TILES[:1], TILES[::-1], TILES + TILES[-1:], TILES + ((1, 2, 3, 4, 5),), (), list(TILES), TILES[0],
                      ((False, 1, 2, 3, 4), TILES[1]), ((0, True, 2, 3, 4), TILES[1]), (TILES[0], (0, 1, 3, 2, 5)), None,
                      (TILES,), ((0, 1, 2, 3, 4), (0, 1, 2, 3, 5), ())):
            self.assertIs(accepts(("stacked", TOPS, 2), paper), False, paper)

    def test_bounds(self):
        value = simplex(5)
        every = (tuple(range(6)),)
        for number in (-1, 0, 1, 2, 3, 5, 10 ** 50, True, False, None, "1"):
            self.assertIs(accepts(("stacked", value, number), every), number in (1, 2) and number is not True)

    def test_blocks_that_do_not_tile(self):
        found = 0
        for value in (cyclic(6, 9), made(6, (9, 36, 81, 108, 81, 27)), cyclic(4, 6), TOPS, stacked(6, 2), cyclic(6, 8),
                      made(6, rows_with(6, 9)[2]), made(6, rows_with(6, 10)[7])):
            g = g_row(value[0], face_row(value))
            for number in range(1, value[0] // 2 + 1):
                blocks = blocks_of(value, number)
                found += g[number] > 0 and len(blocks) > 0
                self.assertIs(accepts(("stacked", value, number), blocks), g[number] == 0)
        self.assertGreater(found, 0)


class OfStresses(unittest.TestCase):
    def test_as_defined(self):
        source = random.Random(36)
        for value in (OCTA, CROSS, cyclic(4, 6), simplex(3)):
            many = len(edges_of(value))
            for _ in range(12):
                ratios = tuple(ratio(Fraction(source.choice((0, 0, 0, 1, -1, 2)), source.randint(1, 2)))
                               for _ in range(many))
                claim = ("no stress", value, ratios)
                defined = Definition(claim)
                said = []
                for index in range(-1, len(value[1]) + 1):
                    for at in range(-1, value[0] + 1):
                        said.append(accepts(claim, (index, at)))
                        self.assertIs(said[-1], defined.accepts((index, at)))
                self.assertIs(any(said), not accepts(("stress", value, ratios), ()))

    def test_one_ratio_otherwise(self):
        self.assertIs(accepts(("stress", CROSS, BENT), ()), False)
        self.assertIs(accepts(("no stress", CROSS, BENT), (0, 0)), True)
        self.assertIs(accepts(("no stress", CROSS, STRESS), (0, 0)), False)
        long = times(STRESS, Fraction(10 ** 300 + 1, 10 ** 299 + 7))
        self.assertIs(accepts(("stress", CROSS, long), ()), True)
        self.assertIs(accepts(("stress", CROSS, with_number(long, 3, (1, 10 ** 100))), ()), False)

    def test_dimension_2_is_no_claim(self):
        for paper in ((), (0, 0), (1, 1)):
            self.assertIs(accepts(("stress", SQUARE, (NONE,) * 4), paper), False)
            self.assertIs(accepts(("no stress", SQUARE, (ONE,) * 4), paper), False)

    def test_wrong_forms(self):
        bent = ("no stress", OCTA, (ONE,) * 12)
        for paper in ((0,), (0, 0, 0), (0, 1), (0, 3), (6, 0), (-1, 0), (0, -1), (0, -3), (False, 0), (0, False), [0, 0],
                      None, 0, (), ((0, 0),), ("0", 0), (10 ** 50, 0)):
            self.assertIs(accepts(bent, paper), False, paper)
        for ratios in ((ONE,) * 11, (ONE,) * 13, ((2, 2),) * 12, ((True, 1),) * 12, (1,) * 12, [ONE] * 12, ((1, 0),) * 12,
                       ((1, -1),) * 12, (), None):
            self.assertIs(accepts(("no stress", OCTA, ratios), (0, 0)), False)
            self.assertIs(accepts(("stress", OCTA, ratios), ()), False)


class OfOwnRows(unittest.TestCase):
    def test_rows(self):
        for value in (SQUARE, OCTA, CROSS, simplex(7), cyclic(5, 8)):
            row = face_row(value)
            self.assertIs(accepts(("row of", value, row), ()), True)
            for at in range(value[0]):
                self.assertIs(accepts(("row of", value, with_number(row, at, row[at] + 1)), ()), False)
            for wrong in (row[:-1], row + (1,), list(row), (), None, with_number(row, 0, 10 ** 10)):
                self.assertIs(accepts(("row of", value, wrong), ()), False)

    def test_no_polytopes(self):
        flat = pointed(2, [[0, 0], [1, 1], [2, 2]])
        for value in (flat, cyclic(2, 7), (2, SQUARE[1] + SQUARE[1][:1]), (3, OCTA[1][:4]), None):
            for row in ((3, 3), (7, 7), (5, 5), (4, 6, 4)):
                self.assertIs(accepts(("row of", value, row), ()), False)


if __name__ == "__main__":
    unittest.main()
