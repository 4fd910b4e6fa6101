import unittest
from fractions import Fraction
from math import floor

from exact import ExactCase, pair, told
from glideways.errors import GlideError, NoFrac
from glideways.fracs import (
    between, frac, is_frac, is_less, least_frac, minus, most_frac, over, plus, rounded, times, whole,
)

HUGE = 10 ** 400 + 7
VAST = 3 ** 900
SOME = [
    (0, 1), (1, 1), (-1, 1), (2, 1), (-2, 1), (1, 2), (-1, 2), (3, 2), (-3, 2), (1, 3), (-1, 3), (2, 3),
    (-2, 3), (7, 4), (-7, 4), (5, 6), (-5, 6), (22, 7), (-22, 7), (HUGE, 1), (-HUGE, 1), (1, HUGE),
    (-1, HUGE), (HUGE, VAST), (-VAST, HUGE), (HUGE + 1, HUGE),
]


class IsFracTest(unittest.TestCase):
    def test_right_fractions(self):
        for one in SOME:
            with self.subTest(one=one):
                self.assertIs(is_frac(one), True)

    def assert_none_is_a_fraction(self, things):
        for thing in things:
            with self.subTest(thing=thing):
                self.assertIs(is_frac(thing), False)

    def test_not_in_lowest_terms(self):
        self.assert_none_is_a_fraction([(2, 4), (-2, 4), (2, 2), (6, 3), (-6, 3), (9, 6), (2 * HUGE, 2 * VAST)])

    def test_down_0_or_below(self):
        self.assert_none_is_a_fraction([(1, 0), (0, 0), (-1, 0), (1, -1), (1, -2), (-1, -2), (0, -1), (HUGE, -VAST)])

    def test_0_over_other_than_1(self):
        self.assert_none_is_a_fraction([(0, 2), (0, 3), (0, HUGE)])

    def test_truths_in_the_place_of_whole_numbers(self):
        self.assert_none_is_a_fraction([
            (True, 1), (False, 1), (1, True), (0, True), (3, True), (True, True), (False, True), (1, False),
            (True, 2), True, False,
        ])

    def test_lists(self):
        self.assert_none_is_a_fraction([[], [1, 2], [0, 1], [(1, 2)], [[1, 2]]])

    def test_texts_numbers_and_none(self):
        self.assert_none_is_a_fraction(["", "1/2", "12", "a", None, 0, 1, -1, HUGE])

    def test_tuples_of_other_lengths(self):
        self.assert_none_is_a_fraction([(), (1,), (0,), (1, 2, 3), (1, 1, 1), (0, 1, 0, 1)])

    def test_tuples_of_other_things(self):
        self.assert_none_is_a_fraction([
            ("1", "2"), ("1", 2), (1, "2"), (None, 1), (1, None), (None, None), ([1], 2), (1, [2]), ([], []),
        ])

    def test_tuples_within_tuples(self):
        deep = (1, 2)
        for _ in range(10):
            deep = (deep, deep)
        self.assert_none_is_a_fraction([((1, 2), 1), (1, (1, 2)), ((1, 2), (1, 2)), ((1, 2),), ((), ()), deep])


class MakingTest(ExactCase):
    def test_frac_is_in_lowest_terms_with_down_above_0(self):
        self.assertEqual(frac(6, 4), (3, 2))
        self.assertEqual(frac(-6, 4), (-3, 2))
        self.assertEqual(frac(6, -4), (-3, 2))
        self.assertEqual(frac(-6, -4), (3, 2))
        self.assertEqual(frac(0, 7), (0, 1))
        self.assertEqual(frac(0, -7), (0, 1))
        self.assertEqual(frac(8, 4), (2, 1))
        self.assertEqual(frac(5, 1), (5, 1))

    def test_frac_of_many(self):
        for up in list(range(-13, 14)) + [HUGE, -HUGE, HUGE * VAST, -HUGE * VAST]:
            for down in list(range(-13, 14)) + [VAST, -VAST, HUGE * 6]:
                if down != 0:
                    with self.subTest(up=up, down=down):
                        self.assert_frac(frac(up, down), Fraction(up, down))

    def test_frac_over_0(self):
        for up in [0, 1, -1, 12, HUGE, -HUGE]:
            with self.subTest(up=up):
                with self.assertRaises(NoFrac):
                    frac(up, 0)

    def test_whole(self):
        for number in [0, 1, -1, 17, -17, HUGE, -HUGE]:
            with self.subTest(number=number):
                self.assert_frac(whole(number), number)
        self.assertEqual(whole(0), (0, 1))
        self.assertEqual(whole(-4), (-4, 1))


class ReckoningTest(ExactCase):
    def test_by_hand(self):
        self.assertEqual(plus((1, 2), (1, 3)), (5, 6))
        self.assertEqual(plus((1, 2), (-1, 2)), (0, 1))
        self.assertEqual(minus((1, 2), (1, 3)), (1, 6))
        self.assertEqual(minus((1, 3), (1, 2)), (-1, 6))
        self.assertEqual(times((2, 3), (3, 4)), (1, 2))
        self.assertEqual(times((-2, 3), (0, 1)), (0, 1))
        self.assertEqual(over((1, 2), (3, 4)), (2, 3))
        self.assertEqual(over((1, 2), (-3, 4)), (-2, 3))
        self.assertEqual(over((0, 1), (-3, 4)), (0, 1))

    def test_plus_minus_times_of_each_two(self):
        for one in SOME:
            for other in SOME:
                with self.subTest(one=one, other=other):
                    self.assert_frac(plus(one, other), told(one) + told(other))
                    self.assert_frac(minus(one, other), told(one) - told(other))
                    self.assert_frac(times(one, other), told(one) * told(other))

    def test_over_of_each_two(self):
        for one in SOME:
            for other in SOME:
                if other != (0, 1):
                    with self.subTest(one=one, other=other):
                        self.assert_frac(over(one, other), told(one) / told(other))

    def test_over_0(self):
        for one in SOME:
            with self.subTest(one=one):
                with self.assertRaises(NoFrac):
                    over(one, (0, 1))

    def test_no_frac_is_the_refusal_itself(self):
        for call in [lambda: frac(1, 0), lambda: over((1, 2), (0, 1))]:
            with self.assertRaises(GlideError) as caught:
                call()
            self.assertIs(type(caught.exception), NoFrac)

    def test_is_less(self):
        for one in SOME:
            for other in SOME:
                with self.subTest(one=one, other=other):
                    self.assertIs(is_less(one, other), told(one) < told(other))
        self.assertIs(is_less((1, 3), (1, 2)), True)
        self.assertIs(is_less((-1, 3), (-1, 2)), False)
        self.assertIs(is_less((1, 2), (1, 2)), False)
        self.assertIs(is_less((HUGE, VAST), (HUGE + 1, VAST)), True)


class LeastAndMostTest(ExactCase):
    def test_of_one(self):
        for one in SOME:
            self.assertEqual(least_frac([one]), one)
            self.assertEqual(most_frac([one]), one)

    def test_of_several(self):
        some = [(1, 2), (-1, 3), (2, 3), (-1, 2), (1, 3)]
        self.assertEqual(least_frac(some), (-1, 2))
        self.assertEqual(most_frac(some), (2, 3))

    def test_wherever_they_stand(self):
        for turn in range(len(SOME)):
            some = SOME[turn:] + SOME[:turn]
            self.assert_frac(least_frac(some), min(told(one) for one in some))
            self.assert_frac(most_frac(some), max(told(one) for one in some))

    def test_like_ones_among_them(self):
        self.assertEqual(least_frac([(1, 2), (1, 3), (1, 2), (1, 3)]), (1, 3))
        self.assertEqual(most_frac([(1, 2), (1, 3), (1, 2), (1, 3)]), (1, 2))
        self.assertEqual(least_frac([(-3, 4), (-3, 4)]), (-3, 4))
        self.assertEqual(most_frac([(-3, 4), (-3, 4)]), (-3, 4))

    def test_what_is_handed_in_is_not_changed(self):
        some = [(1, 2), (-1, 3), (2, 3)]
        least_frac(some)
        most_frac(some)
        self.assertEqual(some, [(1, 2), (-1, 3), (2, 3)])


class RoundedTest(unittest.TestCase):
    def test_halves_go_to_the_greater(self):
        asked = {(1, 2): 1, (3, 2): 2, (5, 2): 3, (-1, 2): 0, (-3, 2): -1, (-5, 2): -2}
        for one, number in asked.items():
            with self.subTest(one=one):
                self.assertEqual(rounded(one), number)

    def test_beside_halves(self):
        asked = {
            (49, 100): 0, (51, 100): 1, (149, 100): 1, (151, 100): 2,
            (-49, 100): 0, (-51, 100): -1, (-149, 100): -1, (-151, 100): -2,
        }
        for one, number in asked.items():
            with self.subTest(one=one):
                self.assertEqual(rounded(one), number)

    def test_whole_numbers_stay(self):
        for number in [0, 1, -1, 8, -8, HUGE, -HUGE]:
            found = rounded((number, 1))
            self.assertEqual(found, number)
            self.assertIs(type(found), int)

    def test_of_many(self):
        for one in SOME + [pair(Fraction(up, 12)) for up in range(-40, 41)]:
            with self.subTest(one=one):
                self.assertEqual(rounded(one), floor(told(one) + Fraction(1, 2)))

    def test_huge_halves(self):
        self.assertEqual(rounded((2 * HUGE + 1, 2)), HUGE + 1)
        self.assertEqual(rounded((-2 * HUGE - 1, 2)), -HUGE)


class BetweenTest(ExactCase):
    def test_at_0_and_1(self):
        for one in SOME:
            for other in SOME:
                self.assertEqual(between(one, other, (0, 1)), one)
                self.assertEqual(between(one, other, (1, 1)), other)

    def test_in_between_and_outside(self):
        self.assertEqual(between((1, 1), (3, 1), (1, 2)), (2, 1))
        self.assertEqual(between((1, 1), (3, 1), (1, 3)), (5, 3))
        self.assertEqual(between((3, 1), (1, 1), (1, 4)), (5, 2))
        self.assertEqual(between((1, 1), (3, 1), (-1, 2)), (0, 1))
        self.assertEqual(between((1, 1), (3, 1), (3, 2)), (4, 1))

    def test_of_many(self):
        parts = [(-7, 3), (-1, 1), (0, 1), (1, 3), (1, 2), (1, 1), (4, 3), (HUGE, VAST), (-HUGE, VAST)]
        for one in SOME:
            for other in SOME:
                for part in parts:
                    asked = told(one) + told(part) * (told(other) - told(one))
                    self.assert_frac(between(one, other, part), asked)


if __name__ == "__main__":
    unittest.main()
