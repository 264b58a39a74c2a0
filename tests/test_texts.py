"""Promise [12]: the texts of polytopes; [4], [5] and [6] for these functions."""

import random
import re
import unittest
from math import gcd

from facenumbers.errors import InvalidPolytope, InvalidText
from facenumbers.polytopes import is_polytope
from facenumbers.texts import read_polytope, show_polytope
from tests.examples import (
    JUNK, OCTA, SQUARE, cyclic, is_plain, pointed, random_told_ratio, simplex, some_polytopes,
)
from tests.test_faces import NO_POLYTOPES, raised

MOST = 10 ** 40 - 1
NUMBER = re.compile(r"(0|-?[1-9][0-9]{0,39})(/([1-9][0-9]{0,39}))?", re.ASCII)
TRIANGLE = "dimension 2\npoint 0 0\npoint 1 0\npoint 0 1"


def refused_at(text):
    """What [12] says of a text's form: the index told, "form" if the form is right."""
    rows = [[word for word in row.split(" ") if word] for row in text.split("\n")]
    if len(rows[0]) != 2 or rows[0][0] != "dimension" or rows[0][1] not in list("234567"):
        return 0
    dimension = int(rows[0][1])
    for at, words in enumerate(rows[1:], 1):
        right = len(words) == dimension + 1 and words[0] == "point" and all(map(NUMBER.fullmatch, words[1:]))
        if not right or at > dimension + 4:
            return at
    return len(rows) if len(rows) < dimension + 2 else "form"


def with_word(word):
    """A text that is a triangle's whatever number the word tells."""
    return f"dimension 2\npoint 0 0\npoint 1 {word}\npoint 0 1"


class Shown(unittest.TestCase):
    def test_by_hand(self):
        self.assertEqual(show_polytope(SQUARE), "dimension 2\npoint 1 0\npoint 0 1\npoint -1 0\npoint 0 -1")
        self.assertEqual(show_polytope(polytope=simplex(3)),
                         "dimension 3\npoint 0 0 0\npoint 1 0 0\npoint 0 1 0\npoint 0 0 1")
        halves = pointed(2, [["1/2", "-3/4"], [7, 0], [0, "-10"]])
        self.assertEqual(show_polytope(halves), "dimension 2\npoint 1/2 -3/4\npoint 7 0\npoint 0 -10")

    def test_shown_and_read_again(self):
        for name, value in some_polytopes().items():
            text = show_polytope(value)
            self.assertIs(type(text), str)
            self.assertEqual(refused_at(text), "form")
            self.assertEqual(text, "\n".join(" ".join(row.split()) for row in text.split("\n")), name)
            self.assertEqual(read_polytope(text), value, name)
            self.assertTrue(is_plain(read_polytope(text)))

    def test_numbers_of_40_figures(self):
        source = random.Random(12)
        for dimension in range(2, 8):
            value = (dimension, tuple(
                tuple(random_told_ratio(source) for _ in range(dimension)) for _ in range(dimension + 1)
            ))
            self.assertTrue(is_polytope(value))
            self.assertEqual(read_polytope(show_polytope(value)), value)
        value = (2, (((MOST, 1), (0, 1)), ((-MOST, 1), (1, MOST)), ((MOST, MOST - 1), (-MOST, MOST - 1))))
        self.assertEqual(show_polytope(value),
                         f"dimension 2\npoint {MOST} 0\npoint -{MOST} 1/{MOST}\n"
                         f"point {MOST}/{MOST - 1} -{MOST}/{MOST - 1}")
        self.assertEqual(read_polytope(show_polytope(value)), value)

    def test_no_polytope(self):
        for value in NO_POLYTOPES:
            error = raised(InvalidPolytope, show_polytope, value)
            self.assertIs(error.given, value)
            self.assertEqual(list(vars(error)), ["given"])


class Numbers(unittest.TestCase):
    def told(self, word):
        return read_polytope(with_word(word))[1][1][1]

    def test_whole_numbers(self):
        for word in ("0", "1", "-1", "7", "10", "-10", "907", str(MOST), str(-MOST), str(10 ** 39)):
            self.assertEqual(self.told(word), (int(word), 1))

    def test_ratios(self):
        for word, ratio in (("1/2", (1, 2)), ("-1/2", (-1, 2)), ("2/4", (1, 2)), ("-6/4", (-3, 2)), ("4/2", (2, 1)),
                            ("3/1", (3, 1)), ("-3/1", (-3, 1)), ("2/2", (1, 1)), ("0/1", (0, 1)), ("0/7", (0, 1)),
                            (f"{MOST}/{MOST}", (1, 1)), (f"-{MOST}/{MOST - 1}", (-MOST, MOST - 1)),
                            (f"1/{MOST}", (1, MOST)), (f"0/{MOST}", (0, 1)), (f"{MOST}/3", (MOST // 3, 1))):
            self.assertEqual(self.told(word), ratio, word)

    def test_any_terms(self):
        source = random.Random(3)
        for _ in range(300):
            over, under = source.randint(-99, 99), source.randint(1, 99)
            common = gcd(over, under)
            self.assertEqual(self.told(f"{over}/{under}"), (over // common, under // common))

    def test_no_numbers(self):
        long = str(MOST + 1)
        for word in ("00", "01", "-0", "-01", "-00", "+1", "--1", "-", "1-", "1.0", "1e3", "0x1", "1_000", "x", "1x",
                     "one", "/", "1/", "/2", "1/0", "0/0", "1/00", "1/02", "01/2", "-0/2", "-0/1", "1/-2", "-1/-2",
                     "1/+2", "+1/2", "1//2", "1/2/3", "1/2/", "1:2", "1\\2", "1,", ",1", "(1)", "1;", long, f"-{long}",
                     f"{long}/3", f"1/{long}", f"{long}/{long}", f"0/{long}", "0" * 41, "0" + str(MOST), "9" * 5000,
                     "1/" + "9" * 5000, "\u0663", "\u00b2", "1/\u0663", "\uff11", "\u22121", "1\u20442", "\u00bd",
                     "1\t", "\t1", "\r", "1\r", "1\x0b", "1\x00", "True", "None"):
            error = raised(InvalidText, read_polytope, with_word(word))
            self.assertEqual(error.index, 2, word)
            self.assertEqual(list(vars(error)), ["index"])

    def test_a_blank_in_a_ratio(self):
        for word in ("1 /2", "1/ 2", "1 / 2", "- 1", "1 2"):
            self.assertEqual(raised(InvalidText, read_polytope, with_word(word)).index, 2)


class Blanks(unittest.TestCase):
    def test_any_many(self):
        for text in ("dimension   2\npoint  0    0\npoint 1  0\npoint   0 1", "  " + TRIANGLE + "   ",
                     TRIANGLE.replace("\n", " \n  "), TRIANGLE.replace(" ", "      "), TRIANGLE.replace("\n", "\n ")):
            self.assertEqual(read_polytope(text), simplex(2))
        self.assertEqual(read_polytope(text=TRIANGLE), simplex(2))

    def test_none_where_one_must_be(self):
        self.assertEqual(raised(InvalidText, read_polytope, TRIANGLE.replace("dimension 2", "dimension2")).index, 0)
        self.assertEqual(raised(InvalidText, read_polytope, TRIANGLE.replace("point 1 0", "point1 0")).index, 2)
        self.assertEqual(raised(InvalidText, read_polytope, TRIANGLE.replace("point 1 0", "point 10")).index, 2)

    def test_other_signs_are_no_blanks(self):
        for sign in "\t\r\x0b\x0c\x1c\x85\u00a0\u2003\u2028\u3000":
            for at, told in ((0, "dimension 2"), (1, "point 0 0"), (2, "point 1 0"), (3, "point 0 1")):
                for changed in (told.replace(" ", sign, 1), told.replace(" ", " " + sign), sign + told, told + sign):
                    text = TRIANGLE.replace(told, changed)
                    self.assertEqual(raised(InvalidText, read_polytope, text).index, at, repr(text))

    def test_other_signs_are_no_new_lines(self):
        for sign in ("\r", "\x0b", "\x0c", "\x1c", "\x85", "\u2028", ";", "\\n"):
            self.assertEqual(raised(InvalidText, read_polytope, TRIANGLE.replace("\n", sign)).index, 0)
        self.assertEqual(raised(InvalidText, read_polytope, TRIANGLE.replace("\n", "\r\n")).index, 0)


class Refused(unittest.TestCase):
    def index(self, text):
        found = raised(InvalidText, read_polytope, text).index
        self.assertEqual(found, refused_at(text), repr(text))
        return found

    def test_the_first_row(self):
        for first in ("", " ", "dimension", "dimension 1", "dimension 8", "dimension 0", "dimension 10", "dimension -2",
                      "dimension 02", "dimension 2/1", "dimension x", "dimension 2 2", "Dimension 2", "dimensions 2",
                      "DIMENSION 2", "2", "2 dimension", "point 0 0", "dimension two", "dimension \u0662",
                      "dimension +2", "dimension 2.", "dim 2"):
            self.assertEqual(self.index(first), 0)
            self.assertEqual(self.index(first + "\npoint 0 0\npoint 1 0\npoint 0 1"), 0)

    def test_each_row(self):
        for dimension in range(2, 8):
            rows = show_polytope(cyclic(dimension, dimension + 4)).split("\n")
            for at in range(1, dimension + 5):
                right = rows[at]
                for wrong in ("", "point", "point 0", right + " 0", right.rpartition(" ")[0], right[1:],
                              right.replace("point", "Point"), right.replace("point", "points"), right[6:],
                              right + "x", right.replace("point", "dimension"), "dimension 2"):
                    text = "\n".join(rows[:at] + [wrong] + rows[at + 1:])
                    self.assertEqual(self.index(text), at)

    def test_the_first_of_several(self):
        rows = show_polytope(OCTA).split("\n")
        for at in range(7):
            for later in range(at + 1, 7):
                wrong = [row + " x" if place in (at, later) else row for place, row in enumerate(rows)]
                self.assertEqual(self.index("\n".join(wrong)), at)
        # Four points in a plane besides: the form is looked at first.
        self.assertEqual(self.index("dimension 2\npoint 1 1\npoint 1 1\npoint 1 x"), 3)
        self.assertEqual(self.index("dimension 9\npoint x"), 0)
        self.assertEqual(self.index("dimension 2\npoint 1 1\npoint"), 2)

    def test_too_few_rows(self):
        for dimension in range(2, 8):
            rows = show_polytope(simplex(dimension)).split("\n")
            for many in range(1, dimension + 2):
                self.assertEqual(self.index("\n".join(rows[:many])), many)
                self.assertEqual(self.index("\n".join(rows[:many]) + "\n"), many)

    def test_a_row_too_many(self):
        for dimension in range(2, 8):
            rows = show_polytope(cyclic(dimension, dimension + 4)).split("\n")
            self.assertEqual(read_polytope("\n".join(rows)), cyclic(dimension, dimension + 4))
            for more in (rows[-1], "point" + " 9" * dimension, "", "x", "dimension 2", "point"):
                self.assertEqual(self.index("\n".join(rows + [more])), dimension + 5)
                self.assertEqual(self.index("\n".join(rows + [more, more])), dimension + 5)

    def test_rows_without_words(self):
        self.assertEqual(self.index(""), 0)
        self.assertEqual(self.index("\n"), 0)
        self.assertEqual(self.index("\n" + TRIANGLE), 0)
        self.assertEqual(self.index("  \n" + TRIANGLE), 0)
        rows = TRIANGLE.split("\n")
        for at in range(1, 4):
            for empty in ("", " ", "    "):
                self.assertEqual(self.index("\n".join(rows[:at] + [empty] + rows[at:])), at)

    def test_a_new_line_at_the_end(self):
        self.assertEqual(self.index(TRIANGLE + "\n"), 4)
        self.assertEqual(self.index(TRIANGLE + "\n   "), 4)
        self.assertEqual(self.index(TRIANGLE + "\n\n"), 4)
        for value in (OCTA, simplex(7), cyclic(7, 11), cyclic(2, 6)):
            self.assertEqual(self.index(show_polytope(value) + "\n"), len(value[1]) + 1)

    def test_no_polytope(self):
        for text in ("dimension 2\npoint 0 0\npoint 1 1\npoint 2 2", "dimension 2\npoint 0 0\npoint 0 0\npoint 1 2",
                     TRIANGLE + "\npoint 1/3 1/3", TRIANGLE + "\npoint 1/2 1/2",
                     "dimension 3\npoint 1 1 0\npoint 1 -1 0\npoint -1 1 0\npoint -1 -1 0\npoint 0 0 1",
                     TRIANGLE + "\npoint 1/2 -1/2\npoint 1/2 -1\npoint 1 -1"):
            self.assertEqual(refused_at(text), "form")
            error = raised(InvalidText, read_polytope, text)
            self.assertIsNone(error.index)
            self.assertEqual(list(vars(error)), ["index"])

    def test_no_text(self):
        for value in JUNK + (TRIANGLE.encode(), [TRIANGLE], (TRIANGLE,), tuple(TRIANGLE.split("\n")), OCTA):
            if not isinstance(value, str):
                self.assertIsNone(raised(InvalidText, read_polytope, value).index)
                self.assertIsNone(raised(InvalidText, read_polytope, text=value).index)

    def test_long_texts(self):
        self.assertEqual(self.index(" " * 40000), 0)
        self.assertEqual(self.index("\n" * 40000), 0)
        self.assertEqual(self.index(TRIANGLE + " " * 30000 + "0"), 3)
        self.assertEqual(read_polytope(TRIANGLE.replace("\n", " " * 10000 + "\n")), simplex(2))

    def test_changed_texts(self):
        source = random.Random(7)
        told = set()
        for value in (simplex(2), SQUARE, OCTA, cyclic(4, 6)):
            for _ in range(400):
                signs = list(show_polytope(value))
                for _ in range(source.randint(1, 2)):
                    at = source.randrange(len(signs))
                    signs[at] = source.choice(["", " ", "\n", "0", "7", "/", "-", "x", signs[at] * 2, "\npoint 1 2 3"])
                text = "".join(signs)
                expected = refused_at(text)
                told.add(expected)
                if expected == "form":
                    try:
                        self.assertTrue(is_polytope(read_polytope(text)))
                    except InvalidText as error:
                        self.assertIsNone(error.index)
                else:
                    self.assertEqual(self.index(text), expected)
        self.assertGreater(len(told), 7)


if __name__ == "__main__":
    unittest.main()
