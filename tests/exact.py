"""What the tests of several modules share: Python's own Fraction as the measure of exactness, and refusals."""

import unittest
from copy import deepcopy
from fractions import Fraction

from glideways.errors import GlideError
from glideways.fracs import is_frac


def pair(number):
    number = Fraction(number)
    return (number.numerator, number.denominator)


def told(one):
    return Fraction(one[0], one[1])


class ExactCase(unittest.TestCase):
    def assert_frac(self, found, asked):
        self.assertTrue(is_frac(found), found)
        self.assertEqual(found, pair(asked))

    def assert_refused(self, error, call, *given):
        before = deepcopy(given)
        with self.assertRaises(GlideError) as caught:
            call(*given)
        self.assertIs(type(caught.exception), error)
        # By their writing, as True is like 1 to Python.
        self.assertEqual(repr(given), repr(before))

    def assert_only(self, question, right, wrong):
        """The question is answered True of all right things, False of all wrong ones, and changes none."""
        for answer, things in ((True, right), (False, wrong)):
            for thing in things:
                with self.subTest(thing=thing, answer=answer):
                    before = repr(thing)
                    self.assertIs(question(thing), answer)
                    self.assertEqual(repr(thing), before)

    def assert_keeps_given(self, call, *given):
        """The call tells the same twice, and what was handed in is as it was."""
        before = repr(given)
        first = call(*given)
        self.assertEqual(repr(call(*given)), repr(first))
        self.assertEqual(repr(given), before)

    def assert_list_is_new(self, call, *given):
        """A told list may be changed, and what is told later is as before."""
        asked = list(call(*given))
        changed = call(*given)
        self.assertIs(type(changed), list)
        changed.append("changed")
        changed.reverse()
        self.assertEqual(call(*given), asked)
        changed.clear()
        self.assertEqual(call(*given), asked)

    def assert_dict_is_new(self, call, *given):
        """A told dict may be changed, and what is told later is as before."""
        asked = dict(call(*given))
        changed = call(*given)
        self.assertIs(type(changed), dict)
        for name in asked:
            changed[name] = "changed"
        changed["another"] = "changed"
        self.assertEqual(call(*given), asked)
        changed.clear()
        self.assertEqual(call(*given), asked)
