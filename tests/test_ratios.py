"""Promise [7]: ratios in lowest terms, on which the made polytopes, forms and stresses stand."""

import random
import unittest
from fractions import Fraction

from facenumbers.ratios import common_under, lowest, multiplied
from tests.examples import is_plain, ratio


class Ratios(unittest.TestCase):
    def test_by_hand(self):
        for over, under, told in ((1, 1, (1, 1)), (1, -1, (-1, 1)), (-3, -1, (3, 1)), (0, 1, (0, 1)), (0, -5, (0, 1)),
                                  (6, 4, (3, 2)), (-6, 4, (-3, 2)), (6, -4, (-3, 2)), (-6, -4, (3, 2)), (5, 5, (1, 1))):
            self.assertEqual(lowest(over, under), told)

    def test_as_fractions(self):
        source = random.Random(7)
        for _ in range(500):
            size = source.choice((3, 100, 10 ** 60))
            over, under = source.randint(-size, size), source.randint(1, size) * source.choice((1, -1))
            self.assertEqual(lowest(over, under), ratio(Fraction(over, under)))
            self.assertTrue(is_plain(lowest(over, under)))

    def test_common_factors(self):
        self.assertEqual(common_under([]), 1)
        self.assertEqual(common_under([(5, 1), (0, 1)]), 1)
        self.assertEqual(common_under([(1, 4), (-5, 6), (2, 1)]), 12)
        self.assertEqual(multiplied([(1, 4), (-5, 6), (2, 1)], 12), [3, -10, 24])
        self.assertEqual(multiplied((), 3), [])


if __name__ == "__main__":
    unittest.main()
