"""What the tests of several modules share: Python's own Fraction as the measure of exactness."""

import unittest
from fractions import Fraction

from glideways.fracs import is_frac


def pair(number):
    return (number.numerator, number.denominator)


def told(one):
    return Fraction(one[0], one[1])


class ExactCase(unittest.TestCase):
    def assert_frac(self, found, asked):
        self.assertTrue(is_frac(found), found)
        self.assertEqual(found, pair(Fraction(asked)))
