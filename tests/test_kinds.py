import unittest
from fractions import Fraction

from exact import ExactCase, pair, told
from glideways.errors import NoKind
from glideways.fracs import is_less
from glideways.kinds import eased, far_on, slope, turned_kind
from measures import EASED, KINDS, SLOPES, TURNED
from things import HUGE, NO_KINDS

WITHIN = [Fraction(up, 12) for up in range(13)] + [Fraction(1, HUGE), Fraction(HUGE - 1, HUGE)]
BELOW = [Fraction(-1, HUGE), Fraction(-1, 2), Fraction(-1), Fraction(-7, 3), Fraction(-HUGE)]
ABOVE = [Fraction(HUGE + 1, HUGE), Fraction(3, 2), Fraction(2), Fraction(22, 7), Fraction(HUGE)]


class KindCase(ExactCase):
    def assert_no_kind(self, call):
        for thing in NO_KINDS:
            with self.subTest(thing=thing):
                self.assert_refused(NoKind, call, thing)


class EasedTest(KindCase):
    def test_by_hand(self):
        quarter = (1, 4)
        self.assertEqual(eased("even", quarter), (1, 4))
        self.assertEqual(eased("in", quarter), (1, 16))
        self.assertEqual(eased("out", quarter), (7, 16))
        self.assertEqual(eased("both", quarter), (5, 32))
        self.assertEqual(eased("hold", quarter), (0, 1))
        self.assertEqual(eased("jump", quarter), (1, 1))

    def test_within(self):
        for kind in KINDS:
            for p in WITHIN:
                with self.subTest(kind=kind, p=p):
                    self.assert_frac(eased(kind, pair(p)), EASED[kind](p))

    def test_none_at_0_and_all_at_1(self):
        for kind in KINDS:
            with self.subTest(kind=kind):
                self.assertEqual(eased(kind, (0, 1)), (0, 1))
                self.assertEqual(eased(kind, (1, 1)), (1, 1))

    def test_outside(self):
        for kind in KINDS:
            with self.subTest(kind=kind):
                for p in BELOW:
                    self.assertEqual(eased(kind, pair(p)), (0, 1))
                for p in ABOVE:
                    self.assertEqual(eased(kind, pair(p)), (1, 1))

    def test_leaps_of_hold_and_jump_are_at_the_very_edge(self):
        self.assertEqual(eased("hold", (HUGE - 1, HUGE)), (0, 1))
        self.assertEqual(eased("jump", (1, HUGE)), (1, 1))

    def test_no_kind(self):
        for part in [(-1, 2), (0, 1), (1, 2), (1, 1), (3, 2)]:
            self.assert_no_kind(lambda thing: eased(thing, part))


class SlopeTest(KindCase):
    def test_by_hand(self):
        quarter = (1, 4)
        self.assertEqual(slope("even", quarter), (1, 1))
        self.assertEqual(slope("in", quarter), (1, 2))
        self.assertEqual(slope("out", quarter), (3, 2))
        self.assertEqual(slope("both", quarter), (9, 8))
        self.assertEqual(slope("hold", quarter), (0, 1))
        self.assertEqual(slope("jump", quarter), (0, 1))

    def test_at_the_edges(self):
        asked = {
            "even": ((1, 1), (1, 1)), "in": ((0, 1), (2, 1)), "out": ((2, 1), (0, 1)),
            "both": ((0, 1), (0, 1)), "hold": ((0, 1), (0, 1)), "jump": ((0, 1), (0, 1)),
        }
        for kind in KINDS:
            with self.subTest(kind=kind):
                self.assertEqual((slope(kind, (0, 1)), slope(kind, (1, 1))), asked[kind])

    def test_within(self):
        for kind in KINDS:
            for p in WITHIN:
                with self.subTest(kind=kind, p=p):
                    self.assert_frac(slope(kind, pair(p)), SLOPES[kind](p))

    def test_outside(self):
        for kind in KINDS:
            for p in BELOW + ABOVE:
                with self.subTest(kind=kind, p=p):
                    self.assertEqual(slope(kind, pair(p)), (0, 1))

    def test_no_kind(self):
        for part in [(-1, 2), (0, 1), (1, 2), (1, 1), (3, 2)]:
            self.assert_no_kind(lambda thing: slope(thing, part))


class TurnedKindTest(KindCase):
    def test_of_every_kind(self):
        for kind in KINDS:
            self.assertEqual(turned_kind(kind), TURNED[kind])

    def test_told_twice_it_leads_back(self):
        for kind in KINDS:
            self.assertEqual(turned_kind(turned_kind(kind)), kind)

    def test_what_is_left_is_gone_in_the_turned_kind(self):
        for kind in KINDS:
            for p in WITHIN + BELOW + ABOVE:
                with self.subTest(kind=kind, p=p):
                    left = 1 - told(eased(kind, pair(1 - p)))
                    self.assertEqual(told(eased(turned_kind(kind), pair(p))), left)

    def test_the_turned_kind_goes_as_fast_at_the_turned_part(self):
        for kind in KINDS:
            for p in WITHIN + BELOW + ABOVE:
                with self.subTest(kind=kind, p=p):
                    self.assertEqual(slope(turned_kind(kind), pair(p)), slope(kind, pair(1 - p)))

    def test_no_kind_turns_back_on_its_way(self):
        parts = sorted(WITHIN + BELOW + ABOVE + [Fraction(up, 97) for up in range(-9, 107)])
        for kind in KINDS:
            ways = [eased(kind, pair(p)) for p in parts]
            for k in range(len(ways) - 1):
                with self.subTest(kind=kind, p=parts[k]):
                    self.assertFalse(is_less(ways[k + 1], ways[k]))
                    self.assertFalse(is_less(slope(kind, pair(parts[k])), (0, 1)))

    def test_no_kind(self):
        self.assert_no_kind(turned_kind)


class FarOnTest(KindCase):
    def test_by_hand(self):
        self.assertEqual(far_on("even", 1), [(0, 1), (1, 1)])
        self.assertEqual(far_on("in", 2), [(0, 1), (1, 4), (1, 1)])
        self.assertEqual(far_on("out", 2), [(0, 1), (3, 4), (1, 1)])
        self.assertEqual(far_on("both", 4), [(0, 1), (5, 32), (1, 2), (27, 32), (1, 1)])
        self.assertEqual(far_on("hold", 3), [(0, 1), (0, 1), (0, 1), (1, 1)])
        self.assertEqual(far_on("jump", 3), [(0, 1), (1, 1), (1, 1), (1, 1)])

    def test_length_first_last_and_each_part(self):
        for kind in KINDS:
            for many in [1, 2, 3, 5, 8, 60]:
                with self.subTest(kind=kind, many=many):
                    found = far_on(kind, many)
                    self.assertIs(type(found), list)
                    self.assertEqual(len(found), many + 1)
                    self.assertEqual(found[0], (0, 1))
                    self.assertEqual(found[-1], (1, 1))
                    for k in range(many + 1):
                        self.assert_frac(found[k], EASED[kind](Fraction(k, many)))

    def test_a_told_list_may_be_changed(self):
        for kind in KINDS:
            with self.subTest(kind=kind):
                self.assert_list_is_new(far_on, kind, 4)

    def test_no_kind(self):
        for many in [-1, 0, 1, 2, 5]:
            self.assert_no_kind(lambda thing: far_on(thing, many))

    def test_beyond_its_bound_nothing_is_refused(self):
        for kind in KINDS:
            for many in [0, -1, -5]:
                self.assertEqual(far_on(kind, many), [])


if __name__ == "__main__":
    unittest.main()
