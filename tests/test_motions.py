import unittest
from fractions import Fraction

from exact import ExactCase, pair, told
from glideways.motions import (
    end_of, ends_between, even_time, is_motion, moved, part_at, slowed, speed_at, turned, worth_at,
)
from measures import KINDS, TURNED, asked_speed, asked_worth, times_about
from things import HUGE, OTHER_THINGS, STILL, a_motion, nested, spoilt_motion, with_part

FORMS = [
    ((0, 1), (1, 1), (0, 1), (1, 1)),
    ((1, 1), (5, 1), (2, 1), (4, 1)),
    ((5, 2), (-7, 3), (-3, 4), (1, 6)),
    ((-1, 2), (-1, 2), (1, 1), (3, 1)),
    ((0, 1), (0, 1), (0, 1), (5, 7)),
    ((HUGE, 3), (1, HUGE), (-HUGE, 2), (1, HUGE)),
]
SPEEDS = [STILL, ((1, 1), (0, 1)), ((0, 1), (1, 1)), ((-2, 3), (5, 4)), ((3, 1), (3, 1)), ((HUGE, 2), (-1, HUGE))]
PLAIN = [form + (kind, STILL) for kind in KINDS for form in FORMS]
KEPT = [form + ("kept", speeds) for form in FORMS for speeds in SPEEDS]
ALL = PLAIN + KEPT
BYS = [Fraction(1), Fraction(2), Fraction(1, 3), Fraction(7, 5), Fraction(1, HUGE), Fraction(HUGE)]


class IsMotionTest(ExactCase):
    def test_right_ones_and_things_of_every_other_sort(self):
        self.assert_only(is_motion, ALL, OTHER_THINGS)

    def test_each_part_spoilt_in_turn(self):
        for motion in [FORMS[0] + ("even", STILL), FORMS[1] + ("jump", STILL), FORMS[2] + ("kept", SPEEDS[3])]:
            self.assert_only(is_motion, [motion], spoilt_motion(motion))

    def test_other_speeds_of_kept_alone(self):
        for kind in KINDS:
            for speeds in SPEEDS:
                with self.subTest(kind=kind, speeds=speeds):
                    self.assertIs(is_motion(FORMS[1] + (kind, speeds)), speeds == STILL)
                    self.assertIs(is_motion(FORMS[1] + ("kept", speeds)), True)

    def test_speeds_that_are_only_like_0_to_python(self):
        for speeds in [((0, True), (0, 1)), ((0, 1), (False, 1)), ((False, True), (False, True)), ([0, 1], [0, 1])]:
            for kind in KINDS + ["kept"]:
                self.assertIs(is_motion(FORMS[0] + (kind, speeds)), False)

    def test_size_0_or_below(self):
        for motion in ALL:
            for size in [(0, 1), (-1, 1), (-1, HUGE), (-HUGE, 1)]:
                self.assertIs(is_motion(with_part(motion, 3, size)), False)

    def test_deep_things(self):
        motion = ALL[0]
        self.assert_only(is_motion, [], [nested(motion, 1), nested(motion, 2), nested(motion, 10), [motion] * 6])
        for place in range(6):
            self.assertIs(is_motion(with_part(motion, place, nested(motion[place], 10))), False)


class PlaceTest(ExactCase):
    def test_by_hand(self):
        motion = a_motion(1, 5, 2, 4, "even")
        self.assertEqual(end_of(motion), (6, 1))
        self.assertEqual(part_at(motion, (2, 1)), (0, 1))
        self.assertEqual(part_at(motion, (3, 1)), (1, 4))
        self.assertEqual(part_at(motion, (6, 1)), (1, 1))
        self.assertEqual(part_at(motion, (0, 1)), (-1, 2))
        self.assertEqual(part_at(motion, (10, 1)), (2, 1))
        self.assertEqual(end_of(a_motion(0, 0, "-3/4", "1/6", "hold")), (-7, 12))

    def test_of_many(self):
        for motion in ALL:
            begin, long = told(motion[2]), told(motion[3])
            self.assert_frac(end_of(motion), begin + long)
            for time in times_about(motion):
                self.assert_frac(part_at(motion, pair(time)), (time - begin) / long)

    def test_ends_between(self):
        self.assertEqual(ends_between(a_motion(1, 5, 0, 1, "even")), ((1, 1), (5, 1)))
        self.assertEqual(ends_between(a_motion(5, 1, 0, 1, "out")), ((1, 1), (5, 1)))
        self.assertEqual(ends_between(a_motion("-1/2", "-1/3", 0, 1, "jump")), ((-1, 2), (-1, 3)))
        self.assertEqual(ends_between(a_motion(3, 3, 0, 1, "hold")), ((3, 1), (3, 1)))
        self.assertEqual(ends_between(a_motion(2, -2, 0, 1, "kept", 90, 90)), ((-2, 1), (2, 1)))


class WorthAtTest(ExactCase):
    def test_by_hand_of_every_kind(self):
        asked = {"even": (2, 1), "in": (5, 4), "out": (11, 4), "both": (13, 8), "hold": (1, 1), "jump": (5, 1)}
        for kind, worth in asked.items():
            with self.subTest(kind=kind):
                self.assertEqual(worth_at(a_motion(1, 5, 2, 4, kind), (3, 1)), worth)

    def test_by_hand_of_kept(self):
        # At the half: both is the mean, and the speeds tell 4 * 2 * 1/8 and 4 * -3 * -1/8 more.
        motion = a_motion(1, 5, 2, 4, "kept", 2, -3)
        self.assertEqual(worth_at(motion, (4, 1)), pair(Fraction(3) + 1 + Fraction(3, 2)))
        # At a quarter: 1 + 4 * 5/32, 4 * 2 * 9/64 and 4 * -3 * -3/64 more.
        self.assertEqual(worth_at(motion, (3, 1)), pair(Fraction(13, 8) + Fraction(9, 8) + Fraction(9, 16)))

    def test_kept_without_speeds_is_as_both(self):
        for form in FORMS:
            for time in times_about(form):
                both, kept = form + ("both", STILL), form + ("kept", STILL)
                self.assertEqual(worth_at(kept, pair(time)), worth_at(both, pair(time)))
                self.assertEqual(speed_at(kept, pair(time)), speed_at(both, pair(time)))

    def test_ahead_at_and_behind_both_ends(self):
        for motion in ALL:
            with self.subTest(motion=motion):
                begin, long = told(motion[2]), told(motion[3])
                for time in [begin - 5 * long, begin - long / HUGE, begin]:
                    self.assertEqual(worth_at(motion, pair(time)), motion[0])
                for time in [begin + long, begin + long + long / HUGE, begin + 5 * long]:
                    self.assertEqual(worth_at(motion, pair(time)), motion[1])

    def test_of_many(self):
        for motion in ALL:
            for time in times_about(motion):
                with self.subTest(motion=motion, time=time):
                    self.assert_frac(worth_at(motion, pair(time)), asked_worth(motion, time))


class SpeedAtTest(ExactCase):
    def test_by_hand_of_every_kind(self):
        asked = {"even": (1, 1), "in": (1, 2), "out": (3, 2), "both": (9, 8), "hold": (0, 1), "jump": (0, 1)}
        for kind, speed in asked.items():
            with self.subTest(kind=kind):
                self.assertEqual(speed_at(a_motion(1, 5, 2, 4, kind), (3, 1)), speed)
        self.assertEqual(speed_at(a_motion(5, 1, 2, 8, "even"), (3, 1)), (-1, 2))

    def test_by_hand_of_kept(self):
        # At the half: 6/4 of the even speed 1, 2 * -1/4 and -3 * -1/4 more.
        motion = a_motion(1, 5, 2, 4, "kept", 2, -3)
        self.assertEqual(speed_at(motion, (4, 1)), pair(Fraction(3, 2) - Fraction(1, 2) + Fraction(3, 4)))

    def test_kept_has_its_speeds_at_its_ends(self):
        for motion in KEPT:
            self.assertEqual(speed_at(motion, motion[2]), motion[5][0])
            self.assertEqual(speed_at(motion, end_of(motion)), motion[5][1])

    def test_none_outside(self):
        for motion in ALL:
            begin, long = told(motion[2]), told(motion[3])
            for part in [Fraction(-9), Fraction(-1, HUGE), 1 + Fraction(1, HUGE), Fraction(9)]:
                self.assertEqual(speed_at(motion, pair(begin + part * long)), (0, 1))

    def test_of_many(self):
        for motion in ALL:
            for time in times_about(motion):
                with self.subTest(motion=motion, time=time):
                    self.assert_frac(speed_at(motion, pair(time)), asked_speed(motion, time))

    def test_it_is_how_fast_the_worth_goes_on(self):
        # Of ways up to the fourth power this difference is exact.
        for motion in [one for one in ALL if one[4] not in ("hold", "jump")]:
            begin, long = told(motion[2]), told(motion[3])
            step = long / 100
            for part in ["1/50", "1/4", "1/2", "2/3", "49/50"]:
                time = begin + Fraction(part) * long
                worths = [told(worth_at(motion, pair(time + k * step))) for k in (-2, -1, 1, 2)]
                asked = (8 * (worths[2] - worths[1]) - (worths[3] - worths[0])) / (12 * step)
                self.assert_frac(speed_at(motion, pair(time)), asked)


class TurnedTest(ExactCase):
    def test_by_hand(self):
        self.assertEqual(turned(a_motion(1, 5, 2, 4, "in")), a_motion(5, 1, 2, 4, "out"))
        self.assertEqual(turned(a_motion(1, 5, 2, 4, "kept", 2, -3)), a_motion(5, 1, 2, 4, "kept", 3, -2))
        self.assertEqual(turned(a_motion(1, 5, 2, 4, "kept", "1/2", 0)), a_motion(5, 1, 2, 4, "kept", 0, "-1/2"))
        for kind in KINDS:
            self.assertEqual(turned(a_motion(0, 1, 0, 1, kind)), a_motion(1, 0, 0, 1, TURNED[kind]))

    def test_it_is_a_motion_and_turned_again_it_is_as_it_was(self):
        for motion in ALL:
            self.assertIs(is_motion(turned(motion)), True)
            self.assertEqual(turned(turned(motion)), motion)

    def test_at_the_turned_time_it_tells_the_same_worth(self):
        for motion in ALL:
            begin, end = told(motion[2]), told(end_of(motion))
            for time in times_about(motion):
                with self.subTest(motion=motion, time=time):
                    mirrored = pair(begin + end - time)
                    self.assertEqual(worth_at(turned(motion), mirrored), worth_at(motion, pair(time)))
                    self.assert_frac(speed_at(turned(motion), mirrored), -told(speed_at(motion, pair(time))))


class MovedAndSlowedTest(ExactCase):
    def test_by_hand(self):
        motion = a_motion(1, 5, 2, 4, "kept", 2, -3)
        self.assertEqual(moved(motion, (1, 2)), a_motion(1, 5, "5/2", 4, "kept", 2, -3))
        self.assertEqual(moved(motion, (-3, 1)), a_motion(1, 5, -1, 4, "kept", 2, -3))
        self.assertEqual(slowed(motion, (2, 1)), a_motion(1, 5, 4, 8, "kept", 1, "-3/2"))
        self.assertEqual(slowed(motion, (1, 3)), a_motion(1, 5, "2/3", "4/3", "kept", 6, -9))
        self.assertEqual(slowed(a_motion(1, 5, -2, 4, "in"), (3, 2)), a_motion(1, 5, -3, 6, "in"))

    def test_moved_by_nothing_and_slowed_by_1(self):
        for motion in ALL:
            self.assertEqual(moved(motion, (0, 1)), motion)
            self.assertEqual(slowed(motion, (1, 1)), motion)

    def test_moved_tells_the_same_so_much_later(self):
        for motion in ALL:
            for by in BYS + [-one for one in BYS]:
                later = moved(motion, pair(by))
                self.assertIs(is_motion(later), True)
                for time in times_about(motion):
                    self.assertEqual(worth_at(later, pair(time + by)), worth_at(motion, pair(time)))
                    self.assertEqual(speed_at(later, pair(time + by)), speed_at(motion, pair(time)))

    def test_slowed_tells_the_same_at_the_slowed_time(self):
        for motion in ALL:
            for by in BYS:
                slow = slowed(motion, pair(by))
                self.assertIs(is_motion(slow), True)
                for time in times_about(motion):
                    self.assertEqual(worth_at(slow, pair(time * by)), worth_at(motion, pair(time)))
                    self.assert_frac(speed_at(slow, pair(time * by)), told(speed_at(motion, pair(time))) / by)


class EvenTimeTest(ExactCase):
    def test_by_hand(self):
        up = a_motion(1, 5, 2, 8, "even")
        down = a_motion(5, 1, 2, 8, "even")
        for worth, time in [(1, 2), (2, 4), (3, 6), ("7/2", 7), (5, 10)]:
            self.assertEqual(even_time(up, pair(worth)), pair(time))
            self.assertEqual(even_time(down, pair(worth)), pair(12 - Fraction(time)))

    def test_outside(self):
        for motion in [a_motion(1, 5, 2, 8, "even"), a_motion(5, 1, 2, 8, "even")]:
            for worth in [0, 6, -HUGE, HUGE, 1 - Fraction(1, HUGE), 5 + Fraction(1, HUGE)]:
                self.assertIsNone(even_time(motion, pair(worth)))

    def test_start_and_goal_alike(self):
        for worth in [(3, 1), (0, 1), (7, 2)]:
            self.assertIsNone(even_time(a_motion(3, 3, 2, 8, "even"), worth))

    def test_other_kinds(self):
        for kind in KINDS[1:] + ["kept"]:
            for worth in [(1, 1), (3, 1), (5, 1), (9, 1)]:
                self.assertIsNone(even_time(a_motion(1, 5, 2, 8, kind), worth))

    def test_at_the_time_it_has_the_worth(self):
        for motion in [one for one in PLAIN if one[4] == "even" and one[0] != one[1]]:
            for time in times_about(motion):
                if told(motion[2]) <= time <= told(end_of(motion)):
                    self.assertEqual(even_time(motion, worth_at(motion, pair(time))), pair(time))


class HandedInTest(ExactCase):
    def test_what_is_handed_in_is_as_it_was(self):
        for motion in ALL:
            for call in [end_of, ends_between, turned]:
                self.assert_keeps_given(call, motion)
            for call in [part_at, worth_at, speed_at, moved, slowed, even_time]:
                self.assert_keeps_given(call, motion, (7, 3))


if __name__ == "__main__":
    unittest.main()
