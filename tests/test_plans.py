import unittest
from fractions import Fraction

from exact import ExactCase, pair, told
from glideways.errors import NoPlan
from glideways.motions import end_of
from glideways.plans import end_worth, fitted, is_plan, played, size_of, slower, steps_of, way_back
from glideways.tracks import end_time, is_track, last_worth, leaps, worth_of
from measures import KINDS, TURNED
from some_plans import (
    BY, GO, NO_PLANS, NOTHING, PLANS, WAIT, WORTHS, again, asked_sizes, asked_steps, by, deep_by_again, deep_by_then,
    go, in_turn, then, wait,
)
from things import HUGE, NO_KINDS, STILL, a_motion, a_track, spoilt_plan


class IsPlanTest(ExactCase):
    def test_right_ones_and_things_of_every_other_sort(self):
        self.assert_only(is_plan, PLANS, NO_PLANS)

    def test_each_part_spoilt_in_turn(self):
        for plan in [GO, BY, WAIT, then(GO, WAIT), again(3, BY), NOTHING, again(2, then(again(4, WAIT), BY))]:
            self.assert_only(is_plan, [plan], spoilt_plan(plan))

    def test_deep(self):
        for deep in range(1, 12):
            for plan in [deep_by_then(deep, True), deep_by_then(deep, False), deep_by_again(deep)]:
                with self.subTest(deep=deep, plan=plan):
                    self.assertIs(is_plan(plan), deep <= 5)
        self.assertIs(is_plan(then(deep_by_again(4), deep_by_then(4, True))), True)
        self.assertIs(is_plan(then(deep_by_again(4), deep_by_then(5, True))), False)
        self.assertIs(is_plan(then(deep_by_again(5), deep_by_then(4, True))), False)
        self.assertIs(is_plan(again(0, deep_by_again(5))), False)

    def test_many(self):
        for many in range(-5, 10):
            self.assertIs(is_plan(again(many, GO)), 0 <= many <= 4)

    def test_kinds(self):
        for kind in KINDS:
            self.assert_only(is_plan, [go(1, 1, kind), by(1, 1, kind)], [wait(1) + (kind,)])
        for thing in NO_KINDS:
            self.assert_only(is_plan, [], [go(1, 1, thing), by(1, 1, thing)])


class StepsTest(ExactCase):
    def test_steps_of_by_hand(self):
        self.assertEqual(steps_of(GO), [GO])
        self.assertEqual(steps_of(WAIT), [WAIT])
        self.assertEqual(steps_of(then(GO, then(WAIT, BY))), [GO, WAIT, BY])
        self.assertEqual(steps_of(then(then(GO, WAIT), BY)), [GO, WAIT, BY])
        self.assertEqual(steps_of(again(2, then(GO, BY))), [GO, BY, GO, BY])
        self.assertEqual(steps_of(again(2, then(WAIT, again(3, BY)))), [WAIT, BY, BY, BY, WAIT, BY, BY, BY])
        self.assertEqual(steps_of(NOTHING), [])
        self.assertEqual(steps_of(then(NOTHING, then(BY, again(4, NOTHING)))), [BY])

    def test_size_of_by_hand(self):
        self.assertEqual(size_of(GO), (2, 1))
        self.assertEqual(size_of(BY), (1, 3))
        self.assertEqual(size_of(WAIT), (3, 4))
        self.assertEqual(size_of(then(GO, then(WAIT, BY))), (37, 12))
        self.assertEqual(size_of(again(4, again(3, BY))), (4, 1))
        self.assertEqual(size_of(NOTHING), (0, 1))
        self.assertEqual(size_of(then(NOTHING, again(3, NOTHING))), (0, 1))

    def test_of_many(self):
        for plan in PLANS:
            self.assertEqual(steps_of(plan), asked_steps(plan))
            self.assert_frac(size_of(plan), sum(asked_sizes(plan), Fraction(0)))

    def test_beyond_its_bounds_nothing_is_refused(self):
        self.assertEqual(steps_of(again(5, WAIT)), [WAIT] * 5)
        self.assertEqual(steps_of(again(-1, WAIT)), [])
        self.assertEqual(size_of(again(7, WAIT)), (21, 4))
        self.assertEqual(len(steps_of(deep_by_then(7, True))), 7)
        self.assertEqual(steps_of(deep_by_again(8)), [by(1, 1, "out")])

    def test_a_told_list_may_be_changed(self):
        for plan in PLANS:
            self.assert_list_is_new(steps_of, plan)
            self.assert_list_is_new(way_back, plan, (1, 2))


class PlayedTest(ExactCase):
    def test_go_and_by(self):
        self.assertEqual(played(GO, (1, 1), (5, 1)), a_track(1, a_motion(1, 3, 5, 2, "in")))
        self.assertEqual(played(BY, (1, 1), (5, 1)), a_track(1, a_motion(1, "3/2", 5, "1/3", "out")))
        asked = a_track(1, a_motion(1, 3, -1, 2, "in"), a_motion(3, "7/2", 1, "1/3", "out"))
        self.assertEqual(played(then(GO, BY), (1, 1), (-1, 1)), asked)

    def test_waits_first_between_and_last(self):
        self.assertEqual(played(WAIT, (1, 1), (5, 1)), a_track(1))
        self.assertEqual(played(then(WAIT, GO), (1, 1), (5, 1)), a_track(1, a_motion(1, 3, "23/4", 2, "in")))
        self.assertEqual(played(then(GO, WAIT), (1, 1), (5, 1)), a_track(1, a_motion(1, 3, 5, 2, "in")))
        asked = a_track(1, a_motion(1, 3, 0, 2, "in"), a_motion(3, "7/2", "7/2", "1/3", "out"))
        self.assertEqual(played(in_turn([GO, WAIT, WAIT, BY]), (1, 1), (0, 1)), asked)

    def test_again(self):
        asked = a_track(0, a_motion(0, 2, 0, 1, "in"), a_motion(2, 4, 3, 1, "in"), a_motion(4, 6, 6, 1, "in"))
        self.assertEqual(played(again(3, then(by(2, 1, "in"), wait(2))), (0, 1), (0, 1)), asked)
        asked = a_track(0, a_motion(0, 3, 1, 2, "in"), a_motion(3, 3, 3, 2, "in"))
        self.assertEqual(played(again(2, GO), (0, 1), (1, 1)), asked)
        self.assertEqual(played(NOTHING, (7, 2), (1, 1)), a_track("7/2"))

    def test_each_step_that_is_no_wait_is_a_motion(self):
        for plan in PLANS:
            for worth in WORTHS:
                with self.subTest(plan=plan, worth=worth):
                    self.assert_motions(plan, worth, Fraction(-7, 3))

    def assert_motions(self, plan, worth, begin):
        found = played(plan, worth, pair(begin))
        self.assertIs(is_track(found), True)
        self.assertEqual(found[0], worth)
        motions = []
        here, now = told(worth), begin
        for step, size in zip(asked_steps(plan), asked_sizes(plan)):
            if step[0] != "wait":
                goal = told(step[1]) + (here if step[0] == "by" else 0)
                motions.append((pair(here), pair(goal), pair(now), pair(size), step[3], STILL))
                here = goal
            now += size
        self.assertEqual(found[1], tuple(motions))
        self.assertEqual(end_worth(plan, worth), pair(here))

    def test_it_ends_when_all_steps_are_over(self):
        for plan in PLANS:
            steps = asked_steps(plan)
            found = end_time(played(plan, (1, 1), (5, 1)))
            while steps and steps[-1][0] == "wait":
                steps.pop()
            sizes = asked_sizes(plan)[:len(steps)]
            self.assertEqual(found, pair(5 + sum(sizes)) if steps else None)

    def test_end_worth(self):
        self.assertEqual(end_worth(GO, (9, 1)), (3, 1))
        self.assertEqual(end_worth(BY, (9, 1)), (19, 2))
        self.assertEqual(end_worth(WAIT, (9, 1)), (9, 1))
        self.assertEqual(end_worth(NOTHING, (9, 1)), (9, 1))
        self.assertEqual(end_worth(again(4, again(4, BY)), (9, 1)), (17, 1))
        self.assertEqual(end_worth(then(BY, GO), (9, 1)), (3, 1))
        self.assertEqual(end_worth(in_turn([GO, BY, WAIT]), (9, 1)), (7, 2))
        for plan in PLANS:
            for worth in WORTHS:
                self.assertEqual(end_worth(plan, worth), last_worth(played(plan, worth, (3, 1))))

    def test_it_leaps_only_where_hold_ends_or_jump_begins(self):
        for plan in PLANS:
            found = played(plan, (1, 1), (0, 1))
            edges = [end_of(one) for one in found[1] if one[4] == "hold"]
            edges += [one[2] for one in found[1] if one[4] == "jump"]
            for time in leaps(found):
                self.assertIn(time, edges)

    def test_no_plan(self):
        for thing in NO_PLANS:
            with self.subTest(thing=thing):
                self.assert_refused(NoPlan, played, thing, (1, 1), (0, 1))
                self.assert_refused(NoPlan, end_worth, thing, (1, 1))


class SlowerTest(ExactCase):
    def test_by_hand(self):
        self.assertEqual(slower(GO, (3, 2)), go(3, 3, "in"))
        self.assertEqual(slower(BY, (3, 1)), by("1/2", 1, "out"))
        self.assertEqual(slower(WAIT, (1, 3)), wait("1/4"))
        self.assertEqual(slower(then(GO, again(2, WAIT)), (2, 1)), then(go(3, 4, "in"), again(2, wait("3/2"))))
        self.assertEqual(slower(NOTHING, (2, 1)), again(0, go(3, 4, "in")))

    def test_it_tells_the_same_at_the_slowed_times(self):
        for plan in PLANS:
            one = played(plan, (1, 1), (0, 1))
            size = sum(asked_sizes(plan), Fraction(0))
            for slow in ["1", "2", "1/3", "22/7"]:
                found = slower(plan, pair(slow))
                self.assertIs(is_plan(found), True)
                self.assert_frac(size_of(found), size * Fraction(slow))
                other = played(found, (1, 1), (0, 1))
                for part in range(-2, 20):
                    time = size * Fraction(part, 17) + Fraction(part, 99)
                    self.assertEqual(worth_of(other, pair(time * Fraction(slow))), worth_of(one, pair(time)))

    def test_by_1_and_there_and_back(self):
        for plan in PLANS:
            self.assertEqual(slower(plan, (1, 1)), plan)
            self.assertEqual(slower(slower(plan, (HUGE, 3)), (3, HUGE)), plan)

    def test_no_plan(self):
        for thing in NO_PLANS:
            with self.subTest(thing=thing):
                self.assert_refused(NoPlan, slower, thing, (2, 1))


class FittedTest(ExactCase):
    def test_by_hand(self):
        self.assertEqual(fitted(GO, (5, 1)), go(3, 5, "in"))
        self.assertEqual(fitted(WAIT, (1, 7)), wait("1/7"))
        self.assertEqual(fitted(then(GO, again(4, wait(1))), (3, 1)), then(go(3, 1, "in"), again(4, wait("1/2"))))
        self.assertEqual(fitted(then(NOTHING, GO), (1, 1)), then(again(0, go(3, 1, "in")), go(3, 1, "in")))

    def test_it_takes_just_so_long(self):
        for plan in PLANS:
            for size in [(1, 1), (22, 7), (1, HUGE), (HUGE, 2)]:
                if asked_steps(plan):
                    found = fitted(plan, size)
                    self.assertIs(is_plan(found), True)
                    self.assertEqual(size_of(found), size)
                    self.assertEqual(found, slower(plan, pair(told(size) / told(size_of(plan)))))
            if asked_steps(plan):
                self.assertEqual(fitted(plan, size_of(plan)), plan)

    def test_no_plan_where_the_size_is_not_above_0(self):
        for plan in PLANS:
            for size in [(0, 1), (-1, 1), (-1, HUGE), (-HUGE, 1)]:
                self.assert_refused(NoPlan, fitted, plan, size)

    def test_no_plan_where_the_plan_takes_no_time(self):
        for plan in [NOTHING, again(3, NOTHING), then(NOTHING, NOTHING), again(0, again(4, then(GO, BY)))]:
            for size in [(1, 1), (5, 2), (0, 1), (-1, 1)]:
                self.assert_refused(NoPlan, fitted, plan, size)

    def test_no_plan_of_other_things(self):
        for thing in NO_PLANS:
            with self.subTest(thing=thing):
                for size in [(1, 1), (0, 1), (-1, 1)]:
                    self.assert_refused(NoPlan, fitted, thing, size)


class WayBackTest(ExactCase):
    def test_by_hand(self):
        self.assertEqual(way_back(GO, (9, 1)), [go(9, 2, "out")])
        self.assertEqual(way_back(BY, (9, 1)), [go(9, "1/3", "in")])
        self.assertEqual(way_back(WAIT, (9, 1)), [WAIT])
        self.assertEqual(way_back(NOTHING, (9, 1)), [])
        found = way_back(in_turn([WAIT, BY, GO, wait(5), go(0, 4, "hold")]), (9, 1))
        self.assertEqual(found, [go(3, 4, "jump"), wait(5), go("19/2", 2, "out"), go(9, "1/3", "in"), WAIT])
        found = way_back(again(3, by(2, 1, "both")), (0, 1))
        self.assertEqual(found, [go(4, 1, "both"), go(2, 1, "both"), go(0, 1, "both")])

    def test_of_every_kind(self):
        for kind in KINDS:
            self.assertEqual(way_back(go(1, 2, kind), (5, 1)), [go(5, 2, TURNED[kind])])
            self.assertEqual(way_back(by(1, 2, kind), (5, 1)), [go(5, 2, TURNED[kind])])

    def test_it_leads_back(self):
        for plan in PLANS:
            for worth in WORTHS:
                with self.subTest(plan=plan, worth=worth):
                    back = way_back(plan, worth)
                    self.assertEqual(len(back), len(asked_steps(plan)))
                    self.assertTrue(all(is_plan(step) for step in back))
                    here = end_worth(plan, worth)
                    for step in back:
                        here = end_worth(step, here)
                    self.assertEqual(here, worth)

    def test_played_from_end_worth_it_goes_back_the_way_the_plan_came(self):
        for plan in PLANS:
            back = way_back(plan, (1, 2))
            if 1 <= len(back) <= 5:
                size = sum(asked_sizes(plan))
                forth_track = played(plan, (1, 2), (0, 1))
                back_track = played(in_turn(back), end_worth(plan, (1, 2)), pair(size))
                self.assertEqual(last_worth(back_track), (1, 2))
                for part in range(0, 51):
                    apart = size * Fraction(part, 50) + Fraction(1, 999983)
                    forth = worth_of(forth_track, pair(size - apart))
                    self.assertEqual(worth_of(back_track, pair(size + apart)), forth)

    def test_no_plan(self):
        for thing in NO_PLANS:
            with self.subTest(thing=thing):
                self.assert_refused(NoPlan, way_back, thing, (1, 1))


class HandedInTest(ExactCase):
    def test_what_is_handed_in_is_as_it_was(self):
        for plan in PLANS:
            for call in [steps_of, size_of]:
                self.assert_keeps_given(call, plan)
            for call in [end_worth, slower, way_back]:
                self.assert_keeps_given(call, plan, (7, 3))
            self.assert_keeps_given(played, plan, (7, 3), (1, 2))
            if asked_steps(plan):
                self.assert_keeps_given(fitted, plan, (7, 3))


if __name__ == "__main__":
    unittest.main()
