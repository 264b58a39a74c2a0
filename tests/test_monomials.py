"""Promises [13] and [15]: monomials, order ideals, compressed ones; [4], [5] and [6] for these functions."""

import random
import unittest
from itertools import combinations_with_replacement, permutations, product
from math import comb

from facenumbers.errors import InvalidIdeal, InvalidNumber, InvalidSequence, NoSequence, TooMany
from facenumbers.macaulay import first_fault, is_m_sequence, most_next
from facenumbers.monomials import compressed, counts_of, is_order_ideal, monomials
from tests.examples import JUNK, is_plain
from tests.test_faces import raised

NO_NUMBERS = (None, True, False, "1", "", b"1", (), (1,), [1], {}, {1: 1}, {1}, 10 ** 40, -1, 7, -10 ** 40, object())
PLANE = ((), (1,), (2,), (1, 1), (1, 2), (2, 2))


def all_monomials(variables, degree):
    """By [13]: those of one degree as their tuples read from the end."""
    found = combinations_with_replacement(range(1, variables + 1), degree)
    return tuple(sorted(found, key=lambda monomial: monomial[::-1]))


def divides(one, other):
    return all(one.count(variable) <= other.count(variable) for variable in one)


def is_ideal_by_definition(variables, lot):
    """For a tuple of monomials."""
    places = [(len(monomial), monomial[::-1]) for monomial in lot]
    if places != sorted(set(places)) or () not in lot:
        return False
    greatest = max(len(monomial) for monomial in lot)
    every = [one for degree in range(greatest + 1) for one in all_monomials(variables, degree)]
    return all(one in lot for one in every if any(divides(one, other) for other in lot))


class Monomials(unittest.TestCase):
    def test_by_hand(self):
        self.assertEqual(monomials(2, 2), ((1, 1), (1, 2), (2, 2)))
        self.assertEqual(monomials(3, 2), ((1, 1), (1, 2), (2, 2), (1, 3), (2, 3), (3, 3)))
        self.assertEqual(monomials(degree=1, variables=3), ((1,), (2,), (3,)))
        self.assertEqual(monomials(2, 3), ((1, 1, 1), (1, 1, 2), (1, 2, 2), (2, 2, 2)))
        self.assertEqual(monomials(1, 6), ((1,) * 6,))

    def test_no_variables_and_degree_0(self):
        for degree in range(1, 7):
            self.assertEqual(monomials(0, degree), ())
        for variables in range(7):
            self.assertEqual(monomials(variables, 0), ((),))

    def test_as_defined(self):
        for variables in range(7):
            for degree in range(7):
                answer = monomials(variables, degree)
                self.assertEqual(answer, all_monomials(variables, degree))
                self.assertTrue(is_plain(answer))

    def test_multiplied_by_a_variable_they_stay_in_order(self):
        for variable in range(1, 5):
            longer = [tuple(sorted(one + (variable,))) for one in monomials(4, 3)]
            every = monomials(4, 4)
            places = [every.index(one) for one in longer]
            self.assertEqual(places, sorted(set(places)))

    def test_wrong_numbers(self):
        for wrong in NO_NUMBERS:
            for other in (0, 6, None, 9):
                error = raised(InvalidNumber, monomials, wrong, other)
                self.assertIs(error.given, wrong)
                self.assertEqual(list(vars(error)), ["given"])
                self.assertIs(raised(InvalidNumber, monomials, degree=other, variables=wrong).given, wrong)
            for variables in (0, 6):
                self.assertIs(raised(InvalidNumber, monomials, variables, wrong).given, wrong)


class OrderIdeals(unittest.TestCase):
    def test_by_hand(self):
        self.assertIs(is_order_ideal(2, ((), (1,), (2, 2))), False)
        self.assertIs(is_order_ideal(2, ((), (1,), (2,), (2, 2))), True)
        self.assertIs(is_order_ideal(2, ((), (2,), (1,))), False)
        self.assertIs(is_order_ideal(value=((),), variables=0), True)
        self.assertIs(is_order_ideal(0, ()), False)
        self.assertIs(is_order_ideal(6, ((), (6,))), True)
        self.assertIs(is_order_ideal(3, ((1,),)), False)
        self.assertIs(is_order_ideal(3, ((), (1,), (3,), (1, 3))), True)
        self.assertIs(is_order_ideal(3, ((), (1,), (3,), (3, 1))), False)

    def test_all_lots(self):
        for told in product((False, True), repeat=len(PLANE)):
            lot = tuple(one for one, there in zip(PLANE, told) if there)
            self.assertIs(is_order_ideal(2, lot), is_ideal_by_definition(2, lot), lot)

    def test_in_another_order(self):
        for lot in (PLANE[:3], PLANE[:5], ((), (1,), (1, 1))):
            for other in permutations(lot):
                self.assertIs(is_order_ideal(2, other), other == lot)

    def test_one_lacking_or_twice(self):
        ideal = compressed((1, 3, 6, 10, 2))
        self.assertIs(is_order_ideal(3, ideal), True)
        for at, monomial in enumerate(ideal):
            without = ideal[:at] + ideal[at + 1:]
            needed = any(divides(monomial, other) for other in without)
            self.assertIs(is_order_ideal(3, without), not needed, monomial)
            self.assertIs(is_order_ideal(3, ideal[:at + 1] + ideal[at:]), False)
            self.assertIs(is_order_ideal(3, ideal + (monomial,)), False)

    def test_variables(self):
        for variables in range(7):
            ideal = ((),) + all_monomials(variables, 1) + all_monomials(variables, 2)
            for allowed in range(7):
                self.assertIs(is_order_ideal(allowed, ideal), variables <= allowed)
        for wrong in (0, -1, 3, 10 ** 40):
            self.assertIs(is_order_ideal(2, ((), (1,), (2,), (wrong,))), False)
            self.assertIs(is_order_ideal(2, ((), (wrong,))), False)

    def test_great_degrees(self):
        chain = tuple((1,) * degree for degree in range(200))
        self.assertIs(is_order_ideal(1, chain), True)
        self.assertIs(is_order_ideal(1, chain[:100] + chain[101:]), False)
        self.assertEqual(counts_of(1, chain), (1,) * 200)
        box = sorted(((1,) * one + (2,) * two for one in range(30) for two in range(20)),
                     key=lambda monomial: (len(monomial), monomial[::-1]))
        self.assertIs(is_order_ideal(2, tuple(box)), True)
        self.assertIs(is_order_ideal(2, tuple(box[:-2] + box[-1:])), False)

    def test_any_value(self):
        for value in JUNK + ([()], [(), (1,)], ([],), ((), [1]), ((), (True,)), ((), ("1",)), ((), (None,)), ((), 1),
                             ((), ((1,),)), ((), {1: 1}), ((), (1, [1])), ("",), ((), "1"), (((),),), {(): 1}, {()}):
            expected = value == ((),)
            for variables in range(7):
                self.assertIs(is_order_ideal(variables, value), expected, value)
        self.assertIs(is_order_ideal(1, ((), (1,))), True)

    def test_random_lots(self):
        source = random.Random(13)
        answers = {True: 0, False: 0}
        every = [one for degree in range(4) for one in all_monomials(3, degree)]
        for _ in range(400):
            tops = source.sample(every, source.randint(1, 4))
            lot = [one for one in every if any(divides(one, top) for top in tops)]
            if source.randint(0, 1):
                lot.remove(source.choice(lot))
            said = is_order_ideal(3, tuple(lot))
            self.assertIs(said, bool(lot) and is_ideal_by_definition(3, tuple(lot)))
            answers[said] += 1
        self.assertGreater(min(answers.values()), 50)

    def test_wrong_variables(self):
        for wrong in NO_NUMBERS:
            for value in (((),), None, 5):
                error = raised(InvalidNumber, is_order_ideal, wrong, value)
                self.assertIs(error.given, wrong)
                self.assertIs(raised(InvalidNumber, is_order_ideal, value=value, variables=wrong).given, wrong)


class Compressed(unittest.TestCase):
    def check(self, sequence):
        answer = compressed(sequence)
        self.assertTrue(is_plain(answer))
        expected = []
        for degree, number in enumerate(sequence):
            if number <= 60 and sequence[1:2] <= (6,):
                variables = sequence[1] if degree > 0 else 0
                expected.extend(all_monomials(variables, degree)[:number])
        if len(expected) == sum(sequence):
            self.assertEqual(answer, tuple(expected))
        self.assertEqual(len(answer), sum(sequence))
        return answer

    def test_by_hand(self):
        self.assertEqual(compressed((1, 3, 2)), ((), (1,), (2,), (3,), (1, 1), (1, 2)))
        self.assertEqual(compressed(sequence=(1,)), ((),))
        self.assertEqual(compressed((1, 0, 0, 0)), ((),))
        self.assertEqual(compressed((1, 2, 3, 1)), ((), (1,), (2,), (1, 1), (1, 2), (2, 2), (1, 1, 1)))
        self.assertEqual(compressed((1, 1, 1, 1, 1, 1, 1, 1)), tuple((1,) * degree for degree in range(8)))

    def test_they_are_order_ideals(self):
        for sequence in product((1,), range(4), range(7), range(11)):
            if is_m_sequence(sequence):
                answer = self.check(sequence)
                self.assertIs(is_order_ideal(3, answer), True)
                counts = counts_of(3, answer)
                self.assertEqual(counts + (0,) * (4 - len(counts)), sequence)

    def test_macaulays_theorem(self):
        # The first monomials in G_1 variables are an order ideal exactly if it is an M-sequence.
        for sequence in product((1,), range(4), range(7), range(11)):
            lots = [all_monomials(sequence[1], degree) for degree in range(4)]
            if all(number <= len(lot) for number, lot in zip(sequence, lots)):
                first = tuple(one for number, lot in zip(sequence, lots) for one in lot[:number])
                self.assertIs(is_order_ideal(3, first), is_m_sequence(sequence), sequence)
            else:
                self.assertIs(is_m_sequence(sequence), False)

    def test_up_to_500(self):
        for sequence in ((1, 499), (1, 30, 465, 4), (1, 6, 21, 56, 126, 252, 38), (1, 2, 3, 4, 5, 6, 7, 8), (1, 30, 465),
                         (1, 3, 6, 10, 15, 21, 28, 36), (1, 5, 15, 35, 70, 126, 210, 38), (1, 249, 250), (1, 100, 1, 1)):
            self.assertEqual(first_fault(sequence), None)
            self.check(sequence)
        self.assertEqual(sum((1, 30, 465, 4)), 500)
        self.assertEqual(compressed((1, 499))[-1], (499,))
        self.assertEqual(compressed((1, 249, 250))[-2:], ((18, 22), (19, 22)))

    def test_too_many(self):
        for sequence in ((1, 500), (1, 10 ** 6), (1, 30, 465, 5), (1, 10 ** 6, 10 ** 6, 10 ** 6), (1, 250, 250),
                         (1, 6, 21, 56, 126, 252, 39)):
            error = raised(TooMany, compressed, sequence)
            self.assertEqual(error.given, sum(sequence))
            self.assertIs(type(error.given), int)
            self.assertEqual(list(vars(error)), ["given"])

    def test_no_sequence(self):
        for sequence in ((1, 2, 4), (2,), (0,), (1, -1), (1, 3, 1, 2), (1, 0, 1), (0, 10 ** 6), (1, 10 ** 6, -1)):
            error = raised(NoSequence, compressed, sequence)
            self.assertEqual(error.given, first_fault(sequence))
            self.assertEqual(list(vars(error)), ["given"])
        for length in range(2, 9):
            sequence = (1, 10 ** 6) + (10 ** 6,) * (length - 3) + (-1,) if length > 2 else (1, -1)
            self.assertEqual(raised(NoSequence, compressed, sequence).given, length - 1)

    def test_wrong_sequences(self):
        for value in JUNK + ([1], [1, 1], "1", (1,) * 9):
            if not isinstance(value, tuple) or not 1 <= len(value) <= 8:
                self.assertIsNone(raised(InvalidSequence, compressed, value).index)
        for at in range(4):
            for wrong in (None, True, "1", 10 ** 6 + 1, -10 ** 6 - 1, [1], (1,)):
                sequence = (1, 5, 5, 5)[:at] + (wrong,) + (5,) * (3 - at)
                self.assertEqual(raised(InvalidSequence, compressed, sequence).index, at)
                # Ahead of what is no M-sequence, and of too many.
                self.assertEqual(raised(InvalidSequence, compressed, (7, 10 ** 6, -1)[:at] + (wrong,)).index, at)


class Counts(unittest.TestCase):
    def test_by_hand(self):
        self.assertEqual(counts_of(3, ((), (1,), (2,), (3,), (1, 2), (1, 3))), (1, 3, 2))
        self.assertEqual(counts_of(ideal=((),), variables=0), (1,))
        self.assertEqual(counts_of(6, ((), (5,))), (1, 1))
        self.assertEqual(counts_of(2, PLANE), (1, 2, 3))

    def test_macaulay_for_all_order_ideals(self):
        source = random.Random(15)
        every = [one for degree in range(5) for one in all_monomials(3, degree)]
        for _ in range(200):
            tops = source.sample(every, source.randint(1, 6))
            ideal = tuple(one for one in every if any(divides(one, top) for top in tops))
            counts = counts_of(3, ideal)
            self.assertTrue(is_plain(counts))
            self.assertEqual(counts, tuple(sum(len(one) == degree for one in ideal)
                                           for degree in range(max(map(len, ideal)) + 1)))
            self.assertIs(is_m_sequence(counts), True)
            for degree in range(2, len(counts)):
                self.assertLessEqual(counts[degree], most_next(counts[degree - 1], degree - 1))

    def test_all(self):
        for variables in range(7):
            ideal = tuple(one for degree in range(4) for one in monomials(variables, degree))
            expected = tuple(comb(variables + degree - 1, degree) for degree in range(1, 4) if variables > 0)
            self.assertEqual(counts_of(variables, ideal), (1,) + expected)

    def test_no_ideal(self):
        for value in JUNK + ([()], ((), (1,), (2, 2)), ((), (2,), (1,)), ((), (4,)), ((), (True,)), ((), (), (1,)),
                             ((1,),), ((), [1])):
            if value != ((),):
                error = raised(InvalidIdeal, counts_of, 3, value)
                self.assertIs(error.given, value)
                self.assertEqual(list(vars(error)), ["given"])
                self.assertIs(raised(InvalidIdeal, counts_of, ideal=value, variables=3).given, value)

    def test_wrong_variables(self):
        for wrong in NO_NUMBERS:
            for ideal in (((),), None, ((1,),)):
                self.assertIs(raised(InvalidNumber, counts_of, wrong, ideal).given, wrong)


if __name__ == "__main__":
    unittest.main()
