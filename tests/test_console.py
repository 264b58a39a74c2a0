"""Promises [35], [36] and [37]: the console; [4], [5] and [6] for these functions."""

import random
import unittest
from fractions import Fraction

from facenumbers.console import fresh_console, said, told_all
from facenumbers.errors import InvalidLines, TooLong
from facenumbers.facerows import least_row, most_row, rows_with, why_none
from facenumbers.macaulay import first_fault, most_next
from facenumbers.making import made
from facenumbers.polytopes import facets_of, is_face, missing_faces
from facenumbers.rings import taken, told_by
from facenumbers.rows import face_row, g_row, h_row
from facenumbers.shellings import line_ordering
from facenumbers.stacking import blocks_of, is_stacked, volume
from facenumbers.stresses import stresses_of
from facenumbers.sums import stacked_on
from facenumbers.texts import show_polytope
from tests.examples import (
    CROSS, JUNK, OCTA, SQUARE, TOPS, bipyramid, cyclic, is_plain, long_polytope, pointed, shuffled, simplex,
    some_polytopes, stacked,
)
from tests.test_faces import raised

NOT = "not understood"
MOST = 10 ** 40 - 1
ASKED = ("show", "row", "h", "g", "facets", "missing", "taken", "volume", "stresses")
OF_STATE = ASKED + ("face", "product", "shell", "stacked", "stack")


def with_state(value):
    """The console behind a line that tells the polytope."""
    console, _ = said(fresh_console(), line_of(value))
    return console


def line_of(value):
    return show_polytope(value).replace("\n", ";")


def blanks(line):
    """The line with blanks ahead, behind and between."""
    return "  " + line.replace(" ", "   ") + "    "


def shown(row):
    return " ".join(map(str, row))


def sets(faces):
    return " ".join("-".join(map(str, face)) for face in faces)


def monomial(variables):
    return "*".join(f"x{variable}" for variable in variables) or "1"


def number(ratio):
    return str(ratio[0]) if ratio[1] == 1 else f"{ratio[0]}/{ratio[1]}"


def read_long(word):
    """A whole number of any many figures: Python reads only some thousands of them at once."""
    total = 0
    for sign in word.lstrip("-"):
        total = 10 * total + "0123456789".index(sign)
    return -total if word.startswith("-") else total


def counted(value):
    return f"{len(value[1])} points, {len(facets_of(value))} facets"


class Console(unittest.TestCase):
    def asked(self, console, line, answer):
        """A line that leaves the console as it is."""
        for told in (line, blanks(line)):
            result = said(console, told)
            self.assertEqual(result, (console, answer), told)
            self.assertIs(type(result), tuple)

    def changed(self, console, line, state):
        """A line behind which the state is another one."""
        self.assertNotEqual(console[0], state)
        expected = (state, (console[1] + (console[0],))[-20:])
        for told in (line, blanks(line)):
            self.assertEqual(said(console, told), (expected, counted(state)), told)
        self.assertTrue(is_plain(expected))
        return expected


class Lines(Console):
    def test_fresh(self):
        self.assertEqual(fresh_console(), (None, ()))
        self.assertEqual(fresh_console(), fresh_console())

    def test_not_understood(self):
        for console in (fresh_console(), with_state(SQUARE), with_state(OCTA)):
            for line in ("", " ", "     ", "fly", "Row", "ROW", "row\t", "\trow", ";", ";;", "; row", "rows", "0", "-",
                         "back;", "bac", "help", "dimension2", "Dimension 2", "dim 2", "row;", "show;g", "\u00a0row",
                         "\u3000", "dimensio n 2", "back back", "back 1", "points", "x1", "point 0 0", "\x00", "\r"):
                self.assertEqual(said(console, line), (console, NOT), repr(line))

    def test_a_new_line_in_it(self):
        for console in (fresh_console(), with_state(SQUARE), with_state(OCTA)):
            for line in ("\n", "row\n", "\nrow", "row\nrow", "back\n", "\nback", "back \n ", "face 0\n1", "rows 4\n7",
                         "make 2 4 4\n", show_polytope(OCTA), show_polytope(SQUARE) + "\n", "dimension 2;\n", "next 8 2\n",
                         "sequence 1\n", "volume \n", "stack 0 1\n", line_of(TOPS) + "\n", "show\n", "fly\n", "h\r\n"):
                self.assertEqual(said(console, line), (console, NOT), repr(line))

    def test_nothing_yet(self):
        for console in (fresh_console(), (None, (SQUARE, None, OCTA))):
            for word in OF_STATE:
                for behind in ("", " 1", " x", " 0 1", " 99999 zzz", " ;", " -1", " 01", " 1/2 1/0", " dimension"):
                    self.asked(console, word + behind, "nothing yet")
            for word in ("Show", "show;", "shows", "stress", "fac", "row\t", "face\t0", "rows", "most", "make", "next"):
                self.asked(console, word, NOT)

    def test_other_signs_part_no_words(self):
        for sign in ("\t", "\r", "\x0b", "\x0c", "\u00a0", "\u2003", ",", ";"):
            self.assertEqual(said(with_state(OCTA), f"face{sign}0{sign}2")[1], NOT)
            self.assertEqual(said(with_state(OCTA), f"face 0{sign}2")[1], NOT)
            self.assertEqual(said(with_state(OCTA), f"face 0 2{sign}")[1], NOT)
            self.assertEqual(said(fresh_console(), f"next 8{sign}2")[1], NOT)

    def test_no_text(self):
        for line in JUNK + (5, None, b"row", ["row"], ("row",), True):
            if not isinstance(line, str):
                for console in (fresh_console(), with_state(SQUARE)):
                    error = raised(InvalidLines, said, console, line)
                    self.assertEqual(vars(error), {"index": None})
                    self.assertEqual(vars(raised(InvalidLines, said, line=line, console=console)), {"index": None})

    def test_by_name(self):
        self.assertEqual(said(line="next 8 2", console=fresh_console()), ((None, ()), "13"))


class Dimension(Console):
    def test_polytopes(self):
        for value in some_polytopes().values():
            console = self.changed(fresh_console(), line_of(value), value)
            self.asked(console, line_of(value), counted(value))
            self.assertEqual(said(console, show_polytope(value).replace("\n", " ; ")), (console, counted(value)))

    def test_not_read_at(self):
        for line, answer in (
                ("dimension", 0), ("dimension 8", 0), ("dimension 1; point 0", 0), ("dimension 02", 0), ("dimension 2 2", 0),
                ("dimension;2", 0), (";dimension 2", 0), (" ; ; dimension 2; point 0 0", 0), ("dimension 2", 1),
                ("dimension 2;", 1), ("dimension 2; point 0 0", 2), ("dimension 2; point 0 0;", 2),
                ("dimension 2; point 0 0; point 1 01", 2), ("dimension 2; point 0 0; point 1 0; point 1", 3),
                ("dimension 2; point 0 0; point 1 0; point 0 1;", 4), ("dimension 2; point 0 0; point 1 0; point 0 1 ; x", 4),
                ("dimension 2; point 0 0; point 1 0; pint 0 1", 3), ("dimension x; point 0 0", 0),
                ("dimension 2 ;point 0 0;point 1 0;;point 0 1", 3), ("dimension 2; point 0 1/0", 1),
                ("dimension 2" + "; point 0 0" * 7, 7), ("dimension 2; dimension 2", 1), ("dimension 3; point 0 0", 1),
                ("dimension 2; point 0 " + "9" * 41, 1), ("dimension 2; point\t0 0", 1)):
            for console in (fresh_console(), with_state(SQUARE)):
                self.asked(console, line, f"not read at {answer}")

    def test_no_polytope(self):
        for line in ("dimension 2; point 0 0; point 1 1; point 2 2", "dimension 2; point 0 0; point 0 0; point 1 2",
                     "dimension 2; point 0 0; point 4 0; point 0 4; point 1 1",
                     "dimension 3; point 1 0 0; point -1 0 0; point 0 1 0; point 0 -1 0"):
            for console in (fresh_console(), with_state(SQUARE)):
                self.asked(console, line, "no polytope")

    def test_ratios_not_in_lowest_terms(self):
        value = pointed(2, [["1/2", 0], [0, "-3/4"], [1, 1]])
        self.changed(fresh_console(), "dimension 2; point 2/4 0/7; point 0 -6/8; point 5/5 1/1", value)

    def test_each_sign_parts_rows(self):
        self.assertEqual(said(fresh_console(), "dimension 2;point 0 0;point 1 0;point 0 1")[0][0], simplex(2))
        self.assertEqual(said(fresh_console(), " dimension  2 ;  point 0 0;point 1 0 ; point  0 1  ")[0][0], simplex(2))


class Make(Console):
    def test_as_made(self):
        for dimension in range(2, 8):
            for points in range(dimension + 1, dimension + 5):
                for row in rows_with(dimension, points)[::4]:
                    self.changed(fresh_console(), f"make {dimension} {shown(row)}", made(dimension, row))

    def test_again(self):
        console, _ = said(fresh_console(), "make 4 7 21 28 14")
        self.asked(console, "make 4 7 21 28 14", "7 points, 14 facets")
        self.assertEqual(console[1], (None,))

    def test_what_bars_it(self):
        for console in (fresh_console(), with_state(OCTA)):
            for dimension, row, answer in (
                    (4, (7, 22, 30, 15), "too many 2"), (4, (7, 17, 20, 10), "below 2"), (4, (7, 19, 24, 13), "unlike 0"),
                    (2, (4, 5), "unlike 0"), (3, (6, -12, 8), "unlike 0"), (3, (4, 0, 0), "unlike 0"),
                    (3, (6, 999999999, -999999999), "unlike 0"), (4, (5, 10, 9, 4), "unlike 1")):
                self.assertEqual(" ".join(map(str, why_none(dimension, row))), answer)
                self.asked(console, f"make {dimension} {shown(row)}", answer)

    def test_not_understood(self):
        for line in ("make", "make 3", "make 3 6", "make 3 6 12", "make 3 6 12 8 0", "make 2 4", "make 2 4 4 4", "make 1 2",
                     "make 8 9 36 84 126 126 84 36 9", "make 03 6 12 8", "make 3 06 12 8", "make 3 6 012 8", "make 3 6 12 -0",
                     "make 3 6 12 +8", "make 3 6 12 8/1", "make 3 3 3 2", "make 3 8 18 12", "make 3 6 12 1000000000",
                     "make 3 6 12 -1000000000", "make 3 6 12 8;", "make x 6 12 8", "make 3 6 x 8", "make -3 6 12 8",
                     "make 3 -6 12 8", "make 00003 6 12 8", "make 10003 6 12 8", "make 3 0 0 0", "make 3 6 12 8.0",
                     "make 3 6 12 --8", "make 3 6 12 \u0668", "make \u0663 6 12 8", "make 3 6 12 -", "make 3 99999 12 8"):
            for console in (fresh_console(), with_state(SQUARE)):
                self.asked(console, line, NOT)

    def test_bounds_of_the_points(self):
        for dimension in range(2, 8):
            for points in range(dimension - 1, dimension + 8):
                row = (points,) + (1,) * (dimension - 1)
                if dimension + 1 <= points <= dimension + 4:
                    expected = " ".join(map(str, why_none(dimension, row)))
                else:
                    expected = NOT
                self.asked(fresh_console(), f"make {dimension} {shown(row)}", expected)


class OfNumbers(Console):
    def test_rows(self):
        for console in (fresh_console(), with_state(SQUARE)):
            for dimension in range(2, 8):
                for points in range(dimension + 1, dimension + 5):
                    self.asked(console, f"rows {dimension} {points}",
                               "\n".join(shown(row) for row in rows_with(dimension, points)))
                    self.asked(console, f"most {dimension} {points}", shown(most_row(dimension, points)))
                    self.asked(console, f"least {dimension} {points}", shown(least_row(dimension, points)))

    def test_rows_not_understood(self):
        for word in ("rows", "most", "least"):
            for behind in ("", " 4", " 4 7 7", " 4 4", " 4 9", " 1 3", " 8 9", " 04 7", " 4 07", " -4 7", " 4 -7", " 4 7;",
                           " 4 10007", " 4 00007", " 4,7", " x 7", " 4 x", " 4 7/1", " 0 3", " 4 0", " 2 1e1", " 2 \u0664",
                           " 10004 7", " 4 7 x"):
                for console in (fresh_console(), with_state(SQUARE)):
                    self.asked(console, word + behind, NOT)

    def test_next(self):
        for console in (fresh_console(), with_state(SQUARE)):
            for top in (0, 1, 3, 8, 100, 999, 9999):
                for degree in range(1, 9):
                    self.asked(console, f"next {top} {degree}", str(most_next(top, degree)))
            for behind in ("", " 8", " 8 2 2", " 8 0", " 8 9", " 10000 2", " 08 2", " 8 02", " -8 2", " 8 -2", " x 2",
                           " 8 x", " 00 1", " 8/1 2", " 8 10000", " 8;2", " +8 2", " 99999 1"):
                self.asked(console, "next" + behind, NOT)

    def test_sequence(self):
        for console in (fresh_console(), with_state(SQUARE)):
            for sequence in ((1,), (1, 3, 1, 1), (1, 2, 4), (1, 3, 1, 2), (2,), (0,), (1, -1), (1, 0, 0, 0, 0, 0, 0, 0),
                             (1, 1000000), (1, -1000000), (-1000000,), (1, 1, 1, 1, 1, 1, 1, 2), (1, 2, 3, 4, 5, -1)):
                fault = first_fault(sequence)
                self.asked(console, f"sequence {shown(sequence)}", "M-sequence" if fault is None else f"fails at {fault}")
            for behind in ("", " x", " 1 1 1 1 1 1 1 1 1", " 01", " 1 02", " 1 -0", " 1 +2", " 1 1000001", " 1 -1000001",
                           " 999999999", " 1 1000000000", " 1;2", " 1 2/1", " 1 2,", " 1 --2", " 1 -", " \u0661"):
                self.asked(console, "sequence" + behind, NOT)


class OfState(Console):
    values = {name: value for name, value in some_polytopes().items()
              if name in ("square", "octa", "cross", "tops", "simplex 3", "cyclic 5 3", "stacked 4 3", "cyclic 2 4",
                          "bipyramid 6", "cyclic 7 4", "simplex 7", "stacked 6 1", "cyclic 6 4")}
    values["ratios"] = pointed(3, [["1/2", 0, "-7/3"], [1, 1, 1], ["-1/9", 5, 0], [0, "2/7", 3]])

    def test_plain_words(self):
        for value in self.values.values():
            console = with_state(value)
            row = face_row(value)
            self.asked(console, "show", show_polytope(value).replace("\n", "; "))
            self.asked(console, "row", shown(row))
            self.asked(console, "h", shown(h_row(value[0], row)))
            self.asked(console, "g", shown(g_row(value[0], row)))
            self.asked(console, "facets", sets(facets_of(value)))
            self.asked(console, "missing", sets(missing_faces(value)))
            self.asked(console, "taken", " ".join(map(monomial, taken(value))))
            self.asked(console, "volume", number(volume(value)))
            self.asked(console, "stresses", NOT if value[0] == 2 else str(len(stresses_of(value))))

    def test_by_hand(self):
        console = with_state(CROSS)
        for line, answer in (
                ("show", "dimension 4; point 1 0 0 0; point -1 0 0 0; point 0 1 0 0; point 0 -1 0 0; point 0 0 1 0; "
                         "point 0 0 -1 0; point 0 0 0 1; point 0 0 0 -1"), ("row", "8 24 32 16"), ("h", "1 4 6 4 1"),
                ("g", "1 3 2"), ("missing", "0-1 2-3 4-5 6-7"), ("taken", "1 x1 x2 x3 x1*x2 x1*x3"), ("stresses", "2"),
                ("product 2 3", "-1 x1*x2 + -1 x1*x3"), ("product 1 3", "1 x1*x3"), ("product 2 2", "0"),
                ("product", "1 1"), ("product 3", "1 x3"), ("volume", "2/3"), ("stacked 1", "not stacked"),
                ("stacked 2", "not stacked"), ("face", "face"), ("face 0 2 4 6", "face"), ("face 0 1", "no face"),
                ("face 7", "face"), ("shell 0 0 0 0", "not general"), ("stacked 3", NOT)):
            self.asked(console, line, answer)
        console = with_state(TOPS)
        for line, answer in (("stacked 2", "stacked: 0-1-2-3-4 0-1-2-3-5"), ("volume", "1/12"), ("taken", "1 x1"),
                             ("missing", "0-1-2-3 4-5"), ("product 1", "1 x1"), ("product 1 1", "0"),
                             ("show", "dimension 4; point 0 0 0 0; point 1 0 0 0; point 0 1 0 0; point 0 0 1 0; "
                                      "point 1/4 1/4 1/4 1; point 1/4 1/4 1/4 -1")):
            self.asked(console, line, answer)
        self.asked(with_state(simplex(3)), "taken", "1")
        self.asked(with_state(simplex(3)), "missing", "0-1-2-3")
        self.asked(with_state(simplex(3)), "stacked 1", "stacked: 0-1-2-3")
        self.asked(with_state(SQUARE), "shell 2 1", "0-1 0-3 1-2 2-3")

    def test_a_word_too_many(self):
        for value in (SQUARE, OCTA, CROSS):
            console = with_state(value)
            for word in ASKED:
                for behind in (" 0", " 1", " x", " ;", " show", " -", " 0 1 2"):
                    self.asked(console, word + behind, NOT)
            for word in ("show", "row", "facets", "volume"):
                for line in (word + ";", word + "s!", word.upper(), word[:-1] + " " + word[-1]):
                    self.asked(console, line, NOT)

    def test_face(self):
        for value in (SQUARE, OCTA, TOPS, cyclic(4, 8)):
            console = with_state(value)
            many = len(value[1])
            for face in ((), (0,), (many - 1,), (0, 1), (0, 2), (0, many - 1), tuple(range(many - 1)), tuple(range(1, many))):
                self.asked(console, f"face {shown(face)}".strip(), "face" if is_face(value, face) else "no face")
            for behind in (shown(range(many)), "1 0", "0 0", str(many), f"0 {many}", "00", "0 01", "-1", "0 -1", "x", "0-1", "0,1",
                           "0;1", "99999", "10000", "9999", "0 1/1", "+0", "\u0660", "0 00001"):
                self.asked(console, f"face {behind}", NOT)

    def test_product(self):
        for value in (SQUARE, CROSS, cyclic(4, 7), stacked(5, 3), cyclic(6, 9), simplex(4), made(4, (8, 25, 34, 17))):
            console = with_state(value)
            variables, half = len(value[1]) - value[0] - 1, value[0] // 2
            for variable in range(0, variables + 2):
                for degree in range(half + 2):
                    told = (variable,) * degree
                    if degree == 0 or (degree <= half and 1 <= variable <= variables):
                        pairs = told_by(value, told)
                        answer = " + ".join(f"{number(one)} {monomial(left)}" for left, one in pairs) or "0"
                    else:
                        answer = NOT
                    self.asked(console, f"product {shown(told)}".strip(), answer)
        console = with_state(CROSS)
        for behind in ("2 1", "1 4", "0", "1 2 3", "01", "1 02", "-1", "x1", "1*2", "1 x", "10001", "1;2", "1/1", "0 1", "\u0661"):
            self.asked(console, f"product {behind}", NOT)

    def test_product_with_ratios(self):
        self.asked(with_state(shuffled(made(4, (8, 25, 34, 17)), 3)), "product 3 3",
                   "240100/5004289081 x1*x1 + -4900/212223 x1*x2 + 25/9 x2*x2")
        for seed in range(6):
            value = shuffled(made(6, rows_with(6, 10)[16]), seed)
            for told in ((3, 3), (2, 2), (1, 3, 3), (2, 3)):
                answer = " + ".join(f"{number(one)} {monomial(left)}" for left, one in told_by(value, told)) or "0"
                self.asked(with_state(value), f"product {shown(told)}", answer)

    def test_product_with_ratios_of_thousands_of_figures(self):
        value = long_polytope(48, 5, 9)
        told = told_by(value, (2, 3))
        self.assertGreater(max(abs(one[0]) for _, one in told), 10 ** 5000)
        answer = said(with_state(value), "product 2 3")[1]
        for (left, one), part in zip(told, answer.split(" + ")):
            words = part.split(" ")
            self.assertEqual(words[1], monomial(left))
            self.assertEqual(tuple(map(read_long, words[0].split("/"))), one)
        self.assertEqual(len(answer.split(" + ")), len(told))

    def test_shell(self):
        for value, told in ((SQUARE, "2 1"), (OCTA, "4 2 1"), (OCTA, "-4/3 2/7 1/1"), (cyclic(3, 7), "1 8/4 -3/9"),
                            (TOPS, "7 5 3 2"), (OCTA, f"{MOST} 5 1/{MOST}"), (cyclic(2, 6), "5 1"), (simplex(2), "0 -3/5")):
            direction = pointed(value[0], [[Fraction(word) for word in told.split()]])[1][0]
            self.asked(with_state(value), f"shell {told}", sets(line_ordering(value, direction)))
        for behind in ("0 0 0", "1 1 0", "1 0 0", "3 2 1"):
            self.asked(with_state(OCTA), f"shell {behind}", "not general")
        for behind in ("", " 1", " 1 2", " 1 2 3 4", " 1 2 x", " 1 2 03", " 1 2 -0", " 1 2 3/0", " 1 2 3/01", " 1 2 3/-1",
                       " 1 2 3;", " 1 2 +3", " 1 2 /3", " 1 2 3/", f" 1 2 {MOST + 1}", f" 1 2 1/{MOST + 1}", " 1,2,3",
                       " 1 2 \u0663", " 4 2 1.0"):
            self.asked(with_state(OCTA), "shell" + behind, NOT)

    def test_stacked(self):
        for value in self.values.values():
            console = with_state(value)
            for at in range(0, 5):
                if not 1 <= at <= value[0] // 2:
                    answer = NOT
                elif is_stacked(value, at):
                    answer = "stacked: " + sets(blocks_of(value, at))
                else:
                    answer = "not stacked"
                self.asked(console, f"stacked {at}", answer)
        for behind in ("", " 1 1", " 01", " -1", " x", " 10001", " 1/1", ";1", " 1;", " 00001"):
            self.asked(with_state(CROSS), "stacked" + behind, NOT)


class Stack(Console):
    def test_each_facet(self):
        for value in (SQUARE, OCTA, TOPS, simplex(5), cyclic(4, 6), bipyramid(7)):
            console = with_state(value)
            for facet in facets_of(value):
                self.changed(console, f"stack {shown(facet)}", stacked_on(value, facet))

    def test_no_facet(self):
        for behind in ("", " 0", " 0 1", " 0 1 2", " 2 0", " 4 2 0", " 0 2 6", " 0 2 4 5", " 9999", " 0 2 9999", " 0 0 2",
                       " 0 1 2 3 4 5", " 0 2 4 6"):
            self.asked(with_state(OCTA), "stack" + behind, "no facet")
        # Ahead of what would be too many.
        self.asked(with_state(cyclic(2, 6)), "stack 0 2", "no facet")
        self.asked(with_state(cyclic(2, 6)), "stack 1 0", "no facet")

    def test_not_understood(self):
        for behind in (" x", " 0 2 x", " 00 2 4", " 0 2 04", " -1", " 0 2 10000", " 99999", " 0-2-4", " 0;2;4", " 0,2,4",
                       " 0 2 4;", " 0/1 2 4", " +0 2 4", " 0 2 \u0664"):
            self.asked(with_state(OCTA), "stack" + behind, NOT)

    def test_too_many(self):
        for value in (cyclic(2, 6), cyclic(3, 7), CROSS, cyclic(7, 11)):
            facet = facets_of(value)[-1]
            self.asked(with_state(value), f"stack {shown(facet)}", f"too many: {value[0] + 5}")

    def test_too_long(self):
        value = pointed(2, [[0, 0], [MOST - 1, 0], [0, 3]])
        self.assertEqual(raised(TooLong, stacked_on, value, (0, 1)).given, 41)
        self.asked(with_state(value), "stack 0 1", "too long: 41")
        value = pointed(2, [[f"1/{MOST}", 0], [f"{MOST}/7", f"5/{MOST - 1}"], [0, 3]])
        longest = raised(TooLong, stacked_on, value, (0, 1)).given
        self.assertGreater(longest, 41)
        self.asked(with_state(value), "stack 0 1", f"too long: {longest}")


class Back(Console):
    def test_nothing_there(self):
        self.asked(fresh_console(), "back", "nothing there")
        self.asked((SQUARE, ()), "back", "nothing there")

    def test_back_to_none(self):
        console = with_state(SQUARE)
        self.assertEqual(console, (SQUARE, (None,)))
        for line in ("back", blanks("back"), " back", "back "):
            self.assertEqual(said(console, line), ((None, ()), "back"))
        console, _ = said(console, "back")
        self.asked(console, "show", "nothing yet")
        self.asked(console, "back", "nothing there")

    def states(self, many):
        return [pointed(2, [[0, 0], [at + 1, 0], [0, 1]]) for at in range(many)]

    def test_up_to_twenty(self):
        console = fresh_console()
        all_states = [None]
        for value in self.states(30):
            console = self.changed(console, line_of(value), value)
            all_states.append(value)
            self.assertEqual(console, (value, tuple(all_states[:-1][-20:])))
        self.assertEqual(len(console[1]), 20)
        self.assertNotIn(None, console[1])
        for at in range(20):
            console, answer = said(console, "back")
            self.assertEqual(answer, "back")
            self.assertEqual(console[0], all_states[-2 - at])
            self.assertEqual(len(console[1]), 19 - at)
        self.assertEqual(said(console, "back"), (console, "nothing there"))

    def test_exactly_twenty(self):
        for many in (19, 20, 21):
            console = fresh_console()
            for value in self.states(many):
                console, _ = said(console, line_of(value))
            self.assertEqual(len(console[1]), min(many, 20))
            self.assertIs(None in console[1], many <= 20)

    def test_each_kind_of_change(self):
        console = with_state(SQUARE)
        console, _ = said(console, "stack 0 1")
        console, _ = said(console, "make 4 7 21 28 14")
        console, _ = said(console, line_of(OCTA))
        expected = (None, SQUARE, stacked_on(SQUARE, (0, 1)), made(4, (7, 21, 28, 14)))
        self.assertEqual(console, (OCTA, expected))
        for at in range(4):
            console, answer = said(console, "back")
            self.assertEqual((console, answer), ((expected[3 - at], expected[:3 - at]), "back"))

    def test_the_state_as_it_is(self):
        console = with_state(SQUARE)
        for line in (line_of(SQUARE), "dimension 2; point 2/2 0; point 0 3/3; point -1 0/5; point 0 -7/7"):
            self.asked(console, line, "4 points, 4 facets")
        made_one, _ = said(console, "make 2 5 5")
        self.asked(made_one, "make 2 5 5", "5 points, 5 facets")
        self.asked(made_one, line_of(made(2, (5, 5))), "5 points, 5 facets")

    def test_an_earlier_state_again(self):
        # It is another one than the state, so it counts as a change.
        console = fresh_console()
        for value in (SQUARE, OCTA, SQUARE, OCTA):
            console, _ = said(console, line_of(value))
        self.assertEqual(console, (OCTA, (None, SQUARE, OCTA, SQUARE)))

    def test_back_and_forth(self):
        source = random.Random(37)
        console, history = fresh_console(), [None]
        for _ in range(300):
            if source.random() < 0.45:
                console, answer = said(console, "back")
                self.assertEqual(answer, "back" if len(history) > 1 else "nothing there")
                if len(history) > 1:
                    history.pop()
            else:
                value = source.choice((SQUARE, OCTA, CROSS, simplex(2), TOPS))
                console, _ = said(console, line_of(value))
                if value != history[-1]:
                    history = (history + [value])[-21:]
            self.assertEqual(console, (history[-1], tuple(history[:-1])))


class ToldAll(Console):
    def test_none(self):
        for console in (fresh_console(), with_state(OCTA)):
            self.assertEqual(told_all(console, ()), (console, ()))

    def test_line_by_line(self):
        lines = ("dimension 2; point 1 0; point 0 1; point -1 0; point 0 -1", "row", "stack 0 1", "g", "fly", "back", "show",
                 "make 3 6 12 8", "facets", "back", "back", "back", "row")
        console, answers = fresh_console(), []
        for line in lines:
            console, answer = said(console, line)
            answers.append(answer)
        self.assertEqual(told_all(fresh_console(), lines), (console, tuple(answers)))
        self.assertEqual(told_all(lines=lines, console=fresh_console()), (console, tuple(answers)))

    def test_sixty_lines(self):
        lines = ("next 8 2", "fly") * 30
        self.assertEqual(told_all(fresh_console(), lines), ((None, ()), ("13", NOT) * 30))
        error = raised(InvalidLines, told_all, fresh_console(), lines + ("fly",))
        self.assertEqual(vars(error), {"index": None})
        self.assertEqual(raised(InvalidLines, told_all, fresh_console(), ("x",) * 61).index, None)
        self.assertEqual(raised(InvalidLines, told_all, fresh_console(), (5,) * 61).index, None)

    def test_no_tuples(self):
        for lines in JUNK + (["row"], "row", {"row": 1}, {"row"}, iter(("row",)), None, 5, b"row"):
            if not isinstance(lines, tuple):
                error = raised(InvalidLines, told_all, fresh_console(), lines)
                self.assertEqual(vars(error), {"index": None})
                self.assertEqual(raised(InvalidLines, told_all, lines=lines, console=fresh_console()).index, None)

    def test_what_is_no_text(self):
        for wrong in JUNK:
            if not isinstance(wrong, str):
                for at in (0, 1, 5, 59):
                    lines = ("row",) * at + (wrong,) + (5,) * (59 - at)
                    error = raised(InvalidLines, told_all, fresh_console(), lines)
                    self.assertEqual(vars(error), {"index": at})

    def test_errors_ahead_of_all_lines(self):
        # Nothing is said where one line is no text, so nothing can be seen of it but the error.
        self.assertEqual(raised(InvalidLines, told_all, with_state(SQUARE), ("stack 0 1", "row", None)).index, 2)

    def test_equal_calls(self):
        lines = ("make 2 5 5", "shell 3 1", "taken")
        self.assertEqual(told_all(fresh_console(), lines), told_all(fresh_console(), tuple(list(lines))))

    def test_consoles_are_not_changed(self):
        console = with_state(SQUARE)
        copy = (console[0], console[1])
        told_all(console, ("stack 0 1", "back", "back", "make 2 5 5"))
        self.assertEqual(console, copy)
        self.assertEqual(fresh_console(), (None, ()))


if __name__ == "__main__":
    unittest.main()
