import unittest
from fractions import Fraction

from exact import ExactCase, pair, told
from glideways.errors import NoKind, NoTime, NoTrack
from glideways.motions import end_of, is_motion, moved, slowed, speed_at
from glideways.tracks import (
    end_time, is_track, last_worth, leaps, speed_of, track_moved, track_slowed, with_motion, worth_ahead, worth_behind,
    worth_of,
)
from measures import KINDS, asked_speed
from some_tracks import (
    CHAINED, EMPTY, FOUR, NO_TRACKS, ONE, PAUSING, STRAY, TINY, TOUCHING, TRACKS, asked_worth_of, edges, last_begun,
    times_of,
)
from things import HUGE, NO_KINDS, OTHER_THINGS, STILL, a_motion, a_track, nested, spoilt_track, with_part


class IsTrackTest(ExactCase):
    def test_right_ones_and_things_of_every_other_sort(self):
        self.assert_only(is_track, TRACKS + [FOUR], OTHER_THINGS)

    def test_each_part_spoilt_in_turn(self):
        for one in [EMPTY, ONE, TOUCHING, STRAY]:
            self.assert_only(is_track, [one], spoilt_track(one))

    def test_motions_that_begin_ahead_of_the_end_of_the_one_ahead(self):
        first, second = a_motion(0, 1, 0, 2, "even"), a_motion(1, 2, 2, 1, "even")
        self.assert_only(is_track, [a_track(0, first, second), a_track(0, first, moved(second, (1, 9)))], [
            a_track(0, second, first), a_track(0, first, first), a_track(0, first, moved(second, (-1, HUGE))),
            a_track(0, first, moved(second, (-5, 1))), a_track(0, first, moved(second, (3, 1)), second),
        ])

    def test_a_track_of_many_motions(self):
        many = [a_motion(k, k + 1, k, 1, "even") for k in range(60)]
        self.assert_only(is_track, [a_track(0, *many)], [a_track(0, *reversed(many)), a_track(0, *(many + many[-1:]))])

    def test_deep_things(self):
        self.assert_only(is_track, [], [nested(ONE, deep) for deep in range(1, 11)])
        self.assertIs(is_track((ONE[0], (ONE,))), False)
        self.assertIs(is_track((ONE[0], (ONE[1],))), False)
        self.assertIs(is_track((ONE, ONE[1])), False)


class LastTest(ExactCase):
    def test_without_motions(self):
        self.assertIsNone(end_time(EMPTY))
        self.assertEqual(last_worth(EMPTY), (5, 2))

    def test_with_motions(self):
        asked = [(ONE, 6, 4), (TOUCHING, 5, 1), (PAUSING, 7, 0), (STRAY, 7, 8), (FOUR, "28/3", "2/3")]
        for one, end, worth in asked:
            self.assertEqual(end_time(one), pair(end))
            self.assertEqual(last_worth(one), pair(worth))

    def test_the_first_worth_does_not_count_with_motions(self):
        self.assertEqual(last_worth(a_track(9, a_motion(0, 4, 2, 4, "even"))), (4, 1))


class WorthOfTest(ExactCase):
    def assert_worths(self, one, asked):
        for time, worth in asked:
            with self.subTest(time=time):
                self.assertEqual(worth_of(one, pair(time)), pair(worth))

    def test_without_motions(self):
        self.assert_worths(EMPTY, [(-9, "5/2"), (0, "5/2"), (9, "5/2")])

    def test_one_motion(self):
        self.assert_worths(ONE, [(-1, 0), (1, 0), (2, 0), (3, 1), (4, 2), ("11/2", "7/2"), (6, 4), (7, 4), (99, 4)])

    def test_touching_motions(self):
        self.assert_worths(TOUCHING, [(-1, 0), (0, 0), (1, 1), (2, 4), (3, "7/3"), (5, 1), (6, 1)])

    def test_pauses_hold_and_jump(self):
        self.assert_worths(PAUSING, [
            (0, 1), (1, 1), (2, 1), ("299/100", 1), (3, 3), (4, 3), (5, 3), ("501/100", 7), (6, 7), ("25/4", 7),
            ("13/2", 7), ("27/4", "7/2"), (7, 0), (8, 0),
        ])

    def test_starts_other_than_the_goal_ahead(self):
        self.assert_worths(STRAY, [(-1, 9), (0, 0), (1, 2), (2, 1), (4, 3), (5, 3), (6, 8), (7, 8)])

    def test_of_many(self):
        for one in TRACKS:
            for time in times_of(one):
                self.assert_frac(worth_of(one, pair(time)), asked_worth_of(one, time))


class LeapsTest(ExactCase):
    def assert_about(self, one, time, ahead, at, behind):
        with self.subTest(track=one, time=time):
            self.assertEqual(worth_ahead(one, pair(time)), pair(ahead))
            self.assertEqual(worth_of(one, pair(time)), pair(at))
            self.assertEqual(worth_behind(one, pair(time)), pair(behind))

    def test_where_hold_ends(self):
        one = a_track(1, a_motion(1, 3, 1, 2, "hold"))
        self.assert_about(one, 1, 1, 1, 1)
        self.assert_about(one, 2, 1, 1, 1)
        self.assert_about(one, 3, 1, 3, 3)
        self.assert_about(one, 4, 3, 3, 3)
        self.assertEqual(leaps(one), [(3, 1)])

    def test_where_jump_begins(self):
        one = a_track(3, a_motion(3, 7, 5, 1, "jump"))
        self.assert_about(one, 4, 3, 3, 3)
        self.assert_about(one, 5, 3, 3, 7)
        self.assert_about(one, "11/2", 7, 7, 7)
        self.assert_about(one, 6, 7, 7, 7)
        self.assert_about(one, 7, 7, 7, 7)
        self.assertEqual(leaps(one), [(5, 1)])

    def test_where_two_motions_touch(self):
        self.assert_about(TOUCHING, 2, 4, 4, 4)
        self.assertEqual(leaps(TOUCHING), [])
        both = a_track(0, a_motion(0, 1, 0, 1, "hold"), a_motion(1, 0, 1, 1, "jump"))
        self.assert_about(both, 1, 0, 1, 0)
        self.assertEqual(leaps(both), [(1, 1)])
        away = a_track(0, a_motion(0, 1, 0, 1, "jump"), a_motion(1, 0, 1, 1, "hold"))
        self.assert_about(away, 0, 0, 0, 1)
        self.assert_about(away, 1, 1, 1, 1)
        self.assert_about(away, 2, 1, 0, 0)
        self.assertEqual(leaps(away), [(0, 1), (2, 1)])

    def test_where_the_next_one_starts_elsewhere(self):
        self.assert_about(STRAY, 0, 9, 0, 0)
        self.assert_about(STRAY, 2, 4, 1, 1)
        self.assert_about(STRAY, 4, 3, 3, 3)
        self.assert_about(STRAY, 6, 3, 8, 8)
        self.assertEqual(leaps(STRAY), [(0, 1), (2, 1), (6, 1)])
        hidden = a_track(0, a_motion(0, 1, 0, 1, "even"), a_motion(5, 1, 1, 1, "jump"))
        self.assert_about(hidden, 1, 1, 5, 1)
        self.assertEqual(leaps(hidden), [(1, 1)])

    def test_rising_and_each_time_once(self):
        # These stand one way by time, and another way by Python's own order.
        first, second = a_motion(0, 1, "-7/2", "1/2", "jump"), a_motion(3, 1, -3, "10/3", "hold")
        one = a_track(5, first, second, a_motion(9, 0, 1, 1, "hold"))
        self.assertEqual(leaps(one), [(-7, 2), (-3, 1), (1, 3), (1, 1), (2, 1)])

    def test_without_motions_and_without_leaps(self):
        self.assertEqual(leaps(EMPTY), [])
        self.assertEqual(leaps(ONE), [])
        self.assert_about(EMPTY, 0, "5/2", "5/2", "5/2")
        self.assertEqual(leaps(a_track(2, a_motion(2, 2, 0, 1, "hold"), a_motion(2, 2, 1, 1, "jump"))), [])

    def test_ahead_and_behind_are_what_the_worths_come_to(self):
        for one in TRACKS:
            for time in times_of(one):
                with self.subTest(track=one, time=time):
                    self.assert_comes_to(one, time, -1, worth_ahead(one, pair(time)))
                    self.assert_comes_to(one, time, 1, worth_behind(one, pair(time)))

    def assert_comes_to(self, one, time, side, worth):
        apart = []
        for step in (TINY / 100, TINY / 10000):
            near = worth_of(one, pair(time + side * step))
            apart.append(abs(told(near) - told(worth)))
        self.assertLess(apart[0], TINY)
        # Nearer in time by a hundred is nearer in worth by about as much.
        self.assertLessEqual(apart[1] * 50, apart[0])

    def test_leaps_are_all_edges_where_the_three_are_not_the_same(self):
        for one in TRACKS:
            asked = []
            for time in edges(one):
                three = [call(one, pair(time)) for call in (worth_ahead, worth_of, worth_behind)]
                if len(set(three)) > 1:
                    asked.append(pair(time))
            self.assertEqual(leaps(one), asked)

    def test_chained_motions_leap_only_where_hold_ends_or_jump_begins(self):
        for one in CHAINED:
            asked = []
            for part in one[1]:
                if part[0] != part[1] and part[4] in ("hold", "jump"):
                    asked.append(end_of(part) if part[4] == "hold" else part[2])
            self.assertEqual(leaps(one), [pair(time) for time in sorted({told(time) for time in asked})])

    def test_a_told_list_may_be_changed(self):
        for one in [EMPTY, PAUSING, STRAY]:
            self.assert_list_is_new(leaps, one)


class SpeedOfTest(ExactCase):
    def test_by_hand(self):
        asked = [(1, 0), ("199/100", 0), (2, 1), (4, 1), ("599/100", 1), (6, 0), (7, 0)]
        for time, speed in asked:
            self.assertEqual(speed_of(ONE, pair(time)), pair(speed))
        asked = [(-1, 0), (0, 0), (1, 2), (2, -2), (3, "-4/3"), (5, 0)]
        for time, speed in asked:
            self.assertEqual(speed_of(TOUCHING, pair(time)), pair(speed))
        asked = [(2, 1), (4, 0), (5, 0), (6, 0), ("13/2", 0)]
        for time, speed in asked:
            self.assertEqual(speed_of(STRAY, pair(time)), pair(speed))

    def test_at_ends_and_in_pauses_none_though_the_motion_was_fast(self):
        one = a_track(0, a_motion(0, 4, 0, 2, "in"), a_motion(4, 5, 3, 2, "kept", 6, 7))
        self.assertEqual(speed_at(one[1][0], (2, 1)), (4, 1))
        self.assertEqual(speed_of(one, (2, 1)), (0, 1))
        self.assertEqual(speed_of(one, (5, 2)), (0, 1))
        self.assertEqual(speed_of(one, (3, 1)), (6, 1))
        self.assertEqual(speed_at(one[1][1], (5, 1)), (7, 1))
        self.assertEqual(speed_of(one, (5, 1)), (0, 1))

    def test_of_many(self):
        for one in TRACKS:
            for time in times_of(one):
                begun = last_begun(one, time)
                goes_on = begun is not None and told(end_of(begun)) > time
                self.assert_frac(speed_of(one, pair(time)), asked_speed(begun, time) if goes_on else 0)


class WithMotionTest(ExactCase):
    def test_right_ones(self):
        found = with_motion(EMPTY, (1, 1), (-4, 1), (1, 2), "in")
        self.assertEqual(found, a_track("5/2", a_motion("5/2", 1, -4, "1/2", "in")))
        found = with_motion(ONE, (9, 1), (6, 1), (3, 1), "jump")
        self.assertEqual(found, a_track(0, a_motion(0, 4, 2, 4, "even"), a_motion(4, 9, 6, 3, "jump")))
        found = with_motion(PAUSING, (1, 3), (100, 1), (1, HUGE), "out")
        self.assertEqual(found, (PAUSING[0], PAUSING[1] + (a_motion(0, "1/3", 100, Fraction(1, HUGE), "out"),)))

    def test_of_every_kind_it_is_a_track(self):
        for one in TRACKS + [FOUR]:
            for kind in KINDS:
                begin = end_time(one) or (-3, 1)
                found = with_motion(one, (7, 3), begin, (5, 1), kind)
                self.assertIs(is_track(found), True)
                self.assertEqual(found[1][:-1], one[1])
                self.assertEqual(found[1][-1], (last_worth(one), (7, 3), begin, (5, 1), kind, STILL))

    def test_no_track(self):
        for thing in NO_TRACKS:
            with self.subTest(thing=thing):
                self.assert_refused(NoTrack, with_motion, thing, (1, 1), (9, 1), (1, 1), "even")

    def test_no_kind(self):
        for thing in NO_KINDS:
            for one in (EMPTY, ONE):
                with self.subTest(thing=thing):
                    self.assert_refused(NoKind, with_motion, one, (1, 1), (9, 1), (1, 1), thing)

    def test_no_time(self):
        for long in [(0, 1), (-1, 1), (-1, HUGE)]:
            for one in (EMPTY, ONE):
                self.assert_refused(NoTime, with_motion, one, (1, 1), (9, 1), long, "even")
        for begin in [(0, 1), (5, 1), pair(6 - TINY), (-HUGE, 1)]:
            self.assert_refused(NoTime, with_motion, ONE, (1, 1), begin, (1, 1), "even")

    def test_two_reasons_at_once(self):
        for kind in ["even", "kept", "nothing", None, ["even"]]:
            for begin in [(0, 1), (9, 1)]:
                for long in [(1, 1), (0, 1), (-1, 1)]:
                    self.assert_refused(NoTrack, with_motion, list(ONE), (1, 1), begin, long, kind)
                    if kind != "even":
                        self.assert_refused(NoKind, with_motion, ONE, (1, 1), begin, long, kind)
        self.assert_refused(NoTime, with_motion, ONE, (1, 1), (0, 1), (0, 1), "even")


class MovedAndSlowedTest(ExactCase):
    def test_by_hand(self):
        self.assertEqual(track_moved(EMPTY, (3, 1)), EMPTY)
        self.assertEqual(track_slowed(EMPTY, (3, 1)), EMPTY)
        asked = a_track(0, a_motion(0, 4, "-1/2", 2, "in"), a_motion(4, 1, "3/2", 3, "out"))
        self.assertEqual(track_moved(TOUCHING, (-1, 2)), asked)
        asked = a_track(0, a_motion(0, 4, 0, 3, "in"), a_motion(4, 1, 3, "9/2", "out"))
        self.assertEqual(track_slowed(TOUCHING, (3, 2)), asked)

    def test_all_motions_moved_and_slowed(self):
        for one in TRACKS:
            for by in [(1, 3), (1, 1), (5, 2), (HUGE, 1), (1, HUGE)]:
                later, slow = track_moved(one, by), track_slowed(one, by)
                self.assertEqual(later, (one[0], tuple(moved(part, by) for part in one[1])))
                self.assertEqual(slow, (one[0], tuple(slowed(part, by) for part in one[1])))
                self.assertTrue(is_track(later) and is_track(slow))
            self.assertEqual(track_moved(track_moved(one, (5, 2)), (-5, 2)), one)
            self.assertEqual(track_slowed(track_slowed(one, (5, 2)), (2, 5)), one)

    def test_they_tell_the_same_at_the_moved_and_slowed_times(self):
        for one in TRACKS:
            later, slow = track_moved(one, (-7, 3)), track_slowed(one, (7, 3))
            for time in times_of(one):
                self.assertEqual(worth_of(later, pair(time - Fraction(7, 3))), worth_of(one, pair(time)))
                self.assertEqual(worth_of(slow, pair(time * Fraction(7, 3))), worth_of(one, pair(time)))

    def test_no_time(self):
        for one in [EMPTY, ONE, STRAY]:
            for by in [(0, 1), (-1, 1), (-1, HUGE), (-HUGE, 1)]:
                self.assert_refused(NoTime, track_slowed, one, by)


class HandedInTest(ExactCase):
    def test_what_is_handed_in_is_as_it_was(self):
        for one in TRACKS:
            for call in [end_time, last_worth, leaps]:
                self.assert_keeps_given(call, one)
            for call in [worth_of, worth_ahead, worth_behind, speed_of, track_moved, track_slowed]:
                self.assert_keeps_given(call, one, (7, 3))
            self.assert_keeps_given(with_motion, one, (1, 1), (50, 1), (1, 1), "in")

    def test_the_tracks_here_are_of_motions(self):
        for one in TRACKS:
            self.assertTrue(all(is_motion(part) for part in one[1]))
            self.assertIs(is_track(with_part(one, 1, one[1][1:])), True)


if __name__ == "__main__":
    unittest.main()
