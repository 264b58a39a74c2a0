"""Promise [14]: expansions, what is most next, M-sequences; [4], [5] and [6] for these functions."""

import random
import unittest
from itertools import combinations_with_replacement, product
from math import comb

from facenumbers.errors import InvalidNumber, InvalidSequence
from facenumbers.macaulay import expansion, first_fault, is_m_sequence, most_next
from tests.examples import JUNK, is_plain
from tests.test_faces import raised

LIMIT = 10 ** 6
NO_NUMBERS = (None, True, False, "1", "", b"1", (), (1,), [1], {}, {1: 1}, {1}, 10 ** 40, -10 ** 40, "x", object())


def most_by_definition(number, degree):
    """By the expansion that [14] defines, found by trying tops from above."""
    total = 0
    while number > 0:
        top = degree
        while comb(top + 1, degree) <= number:
            top += 1
        number -= comb(top, degree)
        total += comb(top + 1, degree + 1)
        degree -= 1
    return total


def shadow_bound(number, degree, variables):
    """How many monomials of the next degree have all their divisors among the first ones."""
    first = sorted(combinations_with_replacement(range(variables), degree), key=lambda one: one[::-1])[:number]
    known = set(first)
    longer = combinations_with_replacement(range(variables), degree + 1)
    return sum(all(one[:at] + one[at + 1:] in known for at in range(degree + 1)) for one in longer)


def fault_by_definition(sequence):
    for at, number in enumerate(sequence):
        if at == 0 and number != 1:
            return 0
        if number < 0 or (at >= 2 and number > most_by_definition(sequence[at - 1], at - 1)):
            return at
    return None


class Expansions(unittest.TestCase):
    def check(self, number, degree):
        tops = expansion(number, degree)
        self.assertTrue(is_plain(tops))
        self.assertEqual(list(tops), sorted(set(tops), reverse=True))
        total = 0
        most = 0
        for at, top in enumerate(tops):
            self.assertGreaterEqual(degree - at, 1)
            self.assertGreaterEqual(top, degree - at)
            total += comb(top, degree - at)
            most += comb(top + 1, degree - at + 1)
        self.assertEqual(total, number)
        self.assertEqual(most_next(number, degree), most)
        self.assertIs(type(most_next(number, degree)), int)

    def test_by_hand(self):
        self.assertEqual(expansion(8, 2), (4, 2))
        self.assertEqual(expansion(number=3, degree=3), (3, 2, 1))
        self.assertEqual(expansion(5, 1), (5,))
        self.assertEqual(expansion(1, 8), (8,))
        self.assertEqual(expansion(2, 2), (2, 1))
        self.assertEqual(expansion(10, 3), (5,))
        self.assertEqual(expansion(11, 3), (5, 2))
        self.assertEqual(expansion(9, 8), (9,))
        self.assertEqual(expansion(8, 8), (8, 7, 6, 5, 4, 3, 2, 1))

    def test_nought(self):
        for degree in range(1, 9):
            self.assertEqual(expansion(0, degree), ())
            self.assertEqual(most_next(0, degree), 0)

    def test_small_numbers(self):
        for degree in range(1, 9):
            for number in range(200):
                self.check(number, degree)
                self.assertEqual(most_next(number, degree), most_by_definition(number, degree))

    def test_at_binomials(self):
        for degree in range(1, 9):
            for top in range(degree, degree + 30):
                number = comb(top, degree)
                if number <= LIMIT:
                    self.assertEqual(expansion(number, degree), (top,))
                    self.assertEqual(most_next(number, degree), comb(top + 1, degree + 1))
                    self.check(number - 1, degree)
                if number < LIMIT:
                    self.check(number + 1, degree)

    def test_great_numbers(self):
        source = random.Random(14)
        for degree in range(1, 9):
            for number in [LIMIT, LIMIT - 1] + [source.randint(0, LIMIT) for _ in range(20)]:
                self.check(number, degree)
        self.assertEqual(expansion(LIMIT, 1), (LIMIT,))
        self.assertEqual(most_next(LIMIT, 1), LIMIT * (LIMIT + 1) // 2)
        self.assertEqual(expansion(LIMIT, 2), (1414, 1009))
        self.assertEqual(most_next(LIMIT, 2), comb(1415, 3) + comb(1010, 2))

    def test_most_next_by_hand(self):
        for number, degree, most in ((8, 2, 13), (0, 3, 0), (3, 3, 3), (2, 1, 3), (3, 1, 6), (6, 2, 10), (1, 1, 1),
                                     (1, 8, 1), (2, 2, 2), (3, 2, 4), (5, 2, 7), (4, 2, 5), (4, 3, 5), (10, 3, 15)):
            self.assertEqual(most_next(degree=degree, number=number), most)

    def test_most_next_counts_monomials(self):
        for degree, variables in ((1, 4), (2, 4), (3, 3), (4, 3)):
            for number in range(comb(variables + degree - 1, degree) + 1):
                self.assertEqual(most_next(number, degree), shadow_bound(number, degree, variables))

    def test_ascending(self):
        for degree in range(1, 9):
            most = [most_next(number, degree) for number in range(400)]
            self.assertEqual(most, sorted(most))


class WrongNumbers(unittest.TestCase):
    def both(self, number, degree):
        found = []
        for call in (expansion, most_next):
            error = raised(InvalidNumber, call, number, degree)
            self.assertEqual(list(vars(error)), ["given"])
            self.assertIs(raised(InvalidNumber, call, degree=degree, number=number).given, error.given)
            found.append(error.given)
        self.assertIs(found[0], found[1])
        return found[0]

    def test_number(self):
        for number in NO_NUMBERS + (-1, LIMIT + 1):
            for degree in (1, 8, 0, None, "x"):
                self.assertIs(self.both(number, degree), number)

    def test_degree(self):
        for degree in NO_NUMBERS + (0, 9, -1):
            for number in (0, 5, LIMIT):
                self.assertIs(self.both(number, degree), degree)


class Sequences(unittest.TestCase):
    def check(self, sequence):
        fault = fault_by_definition(sequence)
        self.assertEqual(first_fault(sequence), fault, sequence)
        self.assertIs(is_m_sequence(sequence), fault is None)
        return fault

    def test_by_hand(self):
        for sequence, fault in (((1, 2, 4), 2), ((1, 3, 1, 1), None), ((1, 3, 1, 2), 3), ((1, 0, 0), None), ((2,), 0),
                                ((1,), None), ((1, 1, 1, 1, 1, 1, 1, 1), None), ((1, 0, 1), 2), ((0,), 0), ((-1,), 0),
                                ((1, -1), 1), ((1, 5, 0, 1), 3), ((1, 10 ** 6), None), ((1, 2, 3, 4, 5, 6, 7, 8), None),
                                ((1, 2, 3, 4, 5, 6, 7, 9), 7), ((1, 3, 6, 10, 15, 21, 28, 36), None)):
            self.assertEqual(first_fault(sequence), fault)
            self.assertIs(is_m_sequence(sequence=sequence), fault is None)
            self.check(sequence)

    def test_all_small_ones(self):
        told = set()
        for sequence in product((0, 1, 2), range(-1, 4), range(-1, 8), range(-1, 12)):
            told.add(self.check(sequence))
        self.assertEqual(told, {None, 0, 1, 2, 3})

    def test_the_most_at_each_place_and_one_more(self):
        for first in (0, 1, 2, 3, 5, 9):
            for length in range(2, 9):
                sequence = (1, first)
                while len(sequence) < length:
                    sequence += (most_by_definition(sequence[-1], len(sequence) - 1),)
                self.assertIsNone(self.check(sequence))
                for at in range(2, length):
                    self.assertEqual(self.check(sequence[:at] + (sequence[at] + 1,) + sequence[at + 1:]), at)

    def test_fails_at_each_place(self):
        for length in range(1, 9):
            right = (1,) * length
            self.assertIsNone(self.check(right))
            for at in range(length):
                below = right[:at] + (-1,) + right[at + 1:]
                self.assertEqual(self.check(below), at)
                self.assertEqual(self.check(below[:at + 1] + (-5,) * (length - at - 1)), at)
                if at != 1:
                    self.assertEqual(self.check(right[:at] + (2,) + right[at + 1:]), at)
            if length > 2:
                self.assertEqual(self.check((1, 0) + right[2:]), 2)

    def test_first_numbers(self):
        for first in (0, 2, -1, LIMIT, -LIMIT):
            for rest in ((), (1,), (-1,), (1, 2), (3,) * 7):
                self.assertEqual(self.check((first,) + rest), 0)

    def test_random_ones(self):
        source = random.Random(1927)
        for _ in range(2000):
            sequence = (1, source.choice((1, 2, 3, 6, 40, 10 ** 4)))
            while len(sequence) < source.randint(2, 8):
                most = min(most_by_definition(max(sequence[-1], 0), len(sequence) - 1), LIMIT - 1)
                sequence += (source.choice((most, most, most, most // 2, most + 1, source.randint(-2, most))),)
            self.check(sequence)

    def test_at_the_bounds(self):
        for number in (LIMIT, -LIMIT):
            for at in range(8):
                self.check((1,) * at + (number,) + (1,) * (7 - at))


class WrongSequences(unittest.TestCase):
    def index(self, sequence):
        found = []
        for call in (first_fault, is_m_sequence):
            error = raised(InvalidSequence, call, sequence)
            self.assertEqual(list(vars(error)), ["index"])
            self.assertEqual(raised(InvalidSequence, call, sequence=sequence).index, error.index)
            found.append(error.index)
        self.assertEqual(found[0], found[1])
        return found[0]

    def test_no_tuple_of_the_length(self):
        for value in JUNK + ([1], [1, 2, 3], "111", b"11", {1: 1}, {1}, range(1, 3), (1,) * 9, (None,) * 9, (1,) * 100):
            if not isinstance(value, tuple) or not 1 <= len(value) <= 8:
                self.assertIsNone(self.index(value))

    def test_the_first_wrong_number(self):
        for length in range(1, 9):
            for at in range(length):
                for wrong in NO_NUMBERS + (LIMIT + 1, -LIMIT - 1):
                    self.assertEqual(self.index((1,) * at + (wrong,) + (1,) * (length - at - 1)), at)
                    self.assertEqual(self.index((-7,) * at + (wrong,) * (length - at)), at)


if __name__ == "__main__":
    unittest.main()
