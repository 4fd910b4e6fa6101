import unittest
from fractions import Fraction

from exact import ExactCase, pair, told
from glideways.cues import cues, first_steps, kinds_used, step_at
from glideways.errors import NoPlan
from glideways.plans import is_plan, played, size_of, slower, steps_of
from measures import KINDS
from some_plans import (
    BY, FORKED, GO, NO_PLANS, NOTHING, PLANS, WAIT, again, asked_sizes, asked_steps, by, deep_by_then, go, in_turn,
    then, wait,
)
from some_tracks import TINY

BEGINS = [(0, 1), (5, 1), (-7, 3)]


def asked_cues(plan, begin):
    sizes = asked_sizes(plan)
    return [begin + sum(sizes[:place]) for place in range(len(sizes))]


class CuesTest(ExactCase):
    def test_by_hand(self):
        self.assertEqual(cues(GO, (5, 1)), [(5, 1)])
        self.assertEqual(cues(WAIT, (-1, 2)), [(-1, 2)])
        self.assertEqual(cues(then(GO, then(WAIT, BY)), (1, 1)), [(1, 1), (3, 1), (15, 4)])
        self.assertEqual(cues(then(then(GO, WAIT), BY), (1, 1)), [(1, 1), (3, 1), (15, 4)])
        self.assertEqual(cues(again(3, then(wait(1), by(1, 2, "in"))), (0, 1)), [
            (0, 1), (1, 1), (3, 1), (4, 1), (6, 1), (7, 1),
        ])
        self.assertEqual(cues(NOTHING, (5, 1)), [])
        self.assertEqual(cues(then(NOTHING, then(GO, then(NOTHING, BY))), (0, 1)), [(0, 1), (2, 1)])

    def test_of_many(self):
        for plan in PLANS:
            for begin in BEGINS:
                self.assertEqual(cues(plan, begin), [pair(cue) for cue in asked_cues(plan, told(begin))])

    def test_the_track_begins_its_motions_at_the_cues(self):
        for plan in PLANS:
            for begin in BEGINS:
                steps = steps_of(plan)
                found = [cue for cue, step in zip(cues(plan, begin), steps, strict=True) if step[0] != "wait"]
                self.assertEqual([motion[2] for motion in played(plan, (1, 2), begin)[1]], found)

    def test_slower(self):
        for plan in PLANS:
            slow = cues(slower(plan, (7, 3)), (0, 1))
            self.assertEqual(slow, [pair(told(cue) * Fraction(7, 3)) for cue in cues(plan, (0, 1))])

    def test_a_told_list_may_be_changed(self):
        for plan in PLANS:
            self.assert_list_is_new(cues, plan, (1, 1))
            self.assert_list_is_new(kinds_used, plan)


class StepAtTest(ExactCase):
    def assert_steps_at(self, plan, begin, asked):
        for time, number in asked:
            with self.subTest(plan=plan, time=time):
                self.assertEqual(step_at(plan, pair(begin), pair(time)), number)

    def test_one_step(self):
        for step in (go(3, 2, "in"), by(1, 2, "jump"), wait(2)):
            self.assert_steps_at(step, 1, [
                (0, None), (1 - TINY, None), (1, 0), (2, 0), (3 - TINY, 0), (3, None), (3 + TINY, None), (9, None),
            ])

    def test_several(self):
        plan = then(GO, then(WAIT, BY))
        self.assert_steps_at(plan, 0, [
            (-1, None), (0, 0), (1, 0), (2 - TINY, 0), (2, 1), ("5/2", 1), ("11/4", 2), (3, 2), ("37/12", None),
            (9, None),
        ])
        plan = then(again(2, then(wait(1), go(1, 1, "in"))), wait(3))
        self.assert_steps_at(plan, -2, [
            (-3, None), (-2, 0), ("-3/2", 0), (-1, 1), (0, 2), (1, 3), (2, 4), (4, 4), (5 - TINY, 4), (5, None),
        ])

    def test_without_steps(self):
        for plan in [NOTHING, then(NOTHING, NOTHING), again(3, NOTHING)]:
            self.assert_steps_at(plan, 1, [(0, None), (1, None), (2, None)])

    def test_steps_that_are_none_have_no_number(self):
        self.assert_steps_at(then(NOTHING, GO), 0, [(0, 0), (1, 0), (2, None)])
        self.assert_steps_at(then(GO, then(NOTHING, BY)), 0, [(0, 0), (2, 1)])

    def test_of_many(self):
        for plan in PLANS:
            for begin in BEGINS:
                begins = asked_cues(plan, told(begin))
                ends = begins[1:] + [told(begin) + told(size_of(plan))]
                for number, (cue, end) in enumerate(zip(begins, ends)):
                    self.assert_steps_at(plan, told(begin), [
                        (cue - TINY, number - 1 if number else None), (cue, number), ((cue + end) / 2, number),
                        (end - TINY, number), (end, number + 1 if number + 1 < len(begins) else None),
                    ])


class FirstStepsTest(ExactCase):
    def test_by_hand(self):
        self.assertEqual(first_steps(GO, 1), GO)
        self.assertEqual(first_steps(WAIT, 5), WAIT)
        self.assertEqual(first_steps(then(GO, BY), 1), GO)
        self.assertEqual(first_steps(then(GO, BY), 2), then(GO, BY))
        self.assertEqual(first_steps(then(GO, BY), 3), then(GO, BY))
        plan = then(then(GO, BY), then(WAIT, again(2, BY)))
        self.assertEqual(first_steps(plan, 1), GO)
        self.assertEqual(first_steps(plan, 2), then(GO, BY))
        self.assertEqual(first_steps(plan, 3), then(GO, then(BY, WAIT)))
        self.assertEqual(first_steps(plan, 4), then(GO, then(BY, then(WAIT, BY))))
        self.assertEqual(first_steps(plan, 5), then(GO, then(BY, then(WAIT, then(BY, BY)))))
        self.assertEqual(first_steps(again(1, GO), 1), GO)
        self.assertEqual(first_steps(again(4, then(GO, WAIT)), 3), then(GO, then(WAIT, GO)))
        self.assertEqual(first_steps(then(NOTHING, GO), 2), GO)

    def test_of_many(self):
        for plan in PLANS:
            steps = asked_steps(plan)
            for many in range(1, 6):
                if steps:
                    found = first_steps(plan, many)
                    self.assertIs(is_plan(found), True)
                    self.assertEqual(steps_of(found), steps[:many])
                    self.assertEqual(found, in_turn(steps[:many]))

    def test_without_steps(self):
        for plan in [NOTHING, then(NOTHING, NOTHING), again(3, NOTHING), again(0, FORKED)]:
            for many in range(1, 6):
                self.assert_refused(NoPlan, first_steps, plan, many)

    def test_beyond_its_bounds_nothing_is_refused(self):
        self.assertEqual(first_steps(again(4, again(2, BY)), 6), in_turn([BY] * 6))
        self.assertEqual(first_steps(again(4, again(2, BY)), 9), in_turn([BY] * 8))
        self.assertEqual(first_steps(then(GO, BY), 0), GO)
        self.assertEqual(first_steps(then(GO, BY), -1), GO)


class KindsUsedTest(ExactCase):
    def test_by_hand(self):
        self.assertEqual(kinds_used(GO), [("in", 1)])
        self.assertEqual(kinds_used(WAIT), [("wait", 1)])
        self.assertEqual(kinds_used(NOTHING), [])
        self.assertEqual(kinds_used(then(GO, BY)), [("in", 1), ("out", 1)])
        self.assertEqual(kinds_used(then(BY, GO)), [("in", 1), ("out", 1)])
        self.assertEqual(kinds_used(then(go(1, 1, "in"), by(1, 1, "in"))), [("in", 2)])
        self.assertEqual(kinds_used(again(4, again(3, then(WAIT, GO)))), [("in", 12), ("wait", 12)])
        self.assertEqual(kinds_used(then(NOTHING, BY)), [("out", 1)])
        self.assertEqual(kinds_used(deep_by_then(5, True)), [("in", 4), ("wait", 1)])

    def test_rising_words(self):
        one, other = then(go(1, 1, "out"), go(1, 1, "jump")), then(by(1, 1, "in"), by(1, 1, "hold"))
        plan = then(then(one, other), then(WAIT, then(go(1, 1, "even"), by(1, 1, "both"))))
        words = ["both", "even", "hold", "in", "jump", "out", "wait"]
        self.assertEqual(kinds_used(plan), [(word, 1) for word in words])

    def test_every_kind(self):
        for kind in KINDS:
            self.assertEqual(kinds_used(go(1, 1, kind)), [(kind, 1)])
            self.assertEqual(kinds_used(again(3, by(1, 1, kind))), [(kind, 3)])

    def test_of_many(self):
        for plan in PLANS:
            words = [step[3] if len(step) == 4 else "wait" for step in asked_steps(plan)]
            self.assertEqual(kinds_used(plan), sorted((word, words.count(word)) for word in set(words)))


class NoPlanTest(ExactCase):
    def test_things_of_every_sort(self):
        for thing in NO_PLANS:
            with self.subTest(thing=thing):
                self.assert_refused(NoPlan, cues, thing, (0, 1))
                self.assert_refused(NoPlan, step_at, thing, (0, 1), (1, 2))
                self.assert_refused(NoPlan, kinds_used, thing)
                for many in range(1, 6):
                    self.assert_refused(NoPlan, first_steps, thing, many)


class HandedInTest(ExactCase):
    def test_what_is_handed_in_is_as_it_was(self):
        for plan in PLANS:
            self.assert_keeps_given(cues, plan, (1, 1))
            self.assert_keeps_given(step_at, plan, (1, 1), (3, 2))
            self.assert_keeps_given(kinds_used, plan)
            if asked_steps(plan):
                self.assert_keeps_given(first_steps, plan, 3)


if __name__ == "__main__":
    unittest.main()
