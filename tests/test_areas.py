import unittest
from fractions import Fraction

from exact import ExactCase, pair, told
from glideways.areas import area, busy, mean, reach, rests, track_area, travel
from glideways.errors import NoTrack
from glideways.motions import moved, slowed, turned, worth_at
from glideways.plans import played
from glideways.tracks import track_moved, track_slowed
from measures import KINDS, asked_worth
from some_plans import PLANS
from some_tracks import EMPTY, FOUR, NO_TRACKS, ONE, PAUSING, STRAY, TOUCHING, TRACKS, asked_worth_of, edges
from things import HUGE, a_motion, a_track

SPEEDS = [(0, 0), (1, 0), (0, 1), (3, -2), ("-1/2", "7/3"), (5, 5)]
MOTIONS = [
    a_motion(start, goal, begin, long, kind)
    for start, goal, begin, long in [(0, 1, 0, 1), (3, "-5/2", "-7/3", "4/5"), (2, 2, 9, 3), (-1, 4, 1, "1/9")]
    for kind in KINDS
]
MOTIONS += [
    a_motion(start, goal, begin, long, "kept", first, last)
    for start, goal, begin, long in [(0, 1, 0, 1), (3, "-5/2", "-7/3", "4/5"), (2, 2, 9, 3)]
    for first, last in SPEEDS
]


def by_open_rule(worth, begin, end):
    """The area of a worth that goes by a power of 3 at most between two times: this rule is exact for it."""
    long = end - begin
    quarters = [worth(begin + long * Fraction(part, 4)) for part in (1, 2, 3)]
    return long / 3 * (2 * quarters[0] - quarters[1] + 2 * quarters[2])


def asked_area(motion):
    begin = told(motion[2])
    return by_open_rule(lambda time: asked_worth(motion, time), begin, begin + told(motion[3]))


def asked_track_area(track):
    at = edges(track)
    areas = [by_open_rule(lambda time: asked_worth_of(track, time), begin, end) for begin, end in zip(at, at[1:])]
    return sum(areas, Fraction(0))


class AreaTest(ExactCase):
    def test_every_kind_by_hand(self):
        for kind, asked in [("even", 4), ("both", 4), ("in", "10/3"), ("out", "14/3"), ("hold", 2), ("jump", 6)]:
            one = a_motion(1, 3, 5, 2, kind)
            self.assertEqual(area(one), pair(asked))
            self.assertEqual(mean(one), pair(Fraction(asked) / 2))

    def test_kept_by_hand(self):
        self.assertEqual(area(a_motion(1, 3, 5, 2, "kept")), (4, 1))
        self.assertEqual(area(a_motion(1, 3, 5, 2, "kept", 6, 0)), (6, 1))
        self.assertEqual(area(a_motion(1, 3, 5, 2, "kept", 0, 6)), (2, 1))
        self.assertEqual(area(a_motion(1, 3, 5, 2, "kept", 6, 6)), (4, 1))
        self.assertEqual(area(a_motion(1, 3, 5, 2, "kept", 6, -6)), (8, 1))
        self.assertEqual(mean(a_motion(1, 3, 5, 2, "kept", 6, -6)), (4, 1))
        self.assertEqual(area(a_motion(0, 0, 0, 6, "kept", 1, 0)), (3, 1))
        self.assertEqual(mean(a_motion(0, 0, 0, 6, "kept", 1, 0)), (1, 2))

    def test_it_is_the_worth_for_as_long_as_it_lasts(self):
        for one in MOTIONS:
            with self.subTest(motion=one):
                self.assert_frac(area(one), asked_area(one))
                self.assert_frac(mean(one), asked_area(one) / told(one[3]))

    def test_moved_it_is_the_same(self):
        for one in MOTIONS:
            for by in [(1, 3), (-9, 2), (HUGE, 1)]:
                self.assertEqual(area(moved(one, by)), area(one))
                self.assertEqual(mean(moved(one, by)), mean(one))

    def test_slowed_it_is_as_many_times_as_great(self):
        for one in MOTIONS:
            for by in [(1, 3), (5, 2), (HUGE, 1), (1, HUGE)]:
                self.assert_frac(area(slowed(one, by)), told(area(one)) * told(by))
                self.assertEqual(mean(slowed(one, by)), mean(one))

    def test_turned_it_is_the_same(self):
        for one in MOTIONS:
            self.assertEqual(area(turned(one)), area(one))
            self.assertEqual(mean(turned(one)), mean(one))

    def test_a_motion_that_stays_comes_to_its_worth(self):
        for kind in KINDS + ["kept"]:
            one = a_motion("7/3", "7/3", -2, "9/5", kind)
            self.assertEqual(area(one), (21, 5))
            self.assertEqual(mean(one), worth_at(one, (0, 1)))


class TrackAreaTest(ExactCase):
    def test_without_motions(self):
        self.assertEqual(track_area(EMPTY), (0, 1))
        self.assertEqual(track_area(a_track(-7)), (0, 1))

    def test_by_hand(self):
        self.assertEqual(track_area(ONE), (8, 1))
        # A third of 2 times 4; 3 times 4, less two thirds of 3 times 3.
        self.assertEqual(track_area(TOUCHING), (26, 3))
        # 2 of 1, 2 of 3, 1 of 7, half of 7, and half of what lies between 7 and 0.
        self.assertEqual(track_area(PAUSING), pair(Fraction(2 + 6 + 7) + Fraction(7, 2) + Fraction(7, 4)))
        # 4 of the first, 4 and 4/12 times 3/2 of the second, 2 of 3, 1 of 8.
        self.assertEqual(track_area(STRAY), pair(4 + 4 + Fraction(1, 2) + 6 + 8))

    def test_a_pause_has_the_worth_of_the_goal_ahead(self):
        for kind in KINDS + ["kept"]:
            one = a_track(9, a_motion(0, 2, 0, 1, kind), a_motion(50, 60, 4, 1, "even"))
            asked = told(area(one[1][0])) + 6 + 55
            self.assert_frac(track_area(one), asked)

    def test_the_first_worth_does_not_count(self):
        for first in [0, 9, "-5/2"]:
            self.assertEqual(track_area((pair(first), TOUCHING[1])), (26, 3))

    def test_of_many(self):
        for one in TRACKS + [FOUR] + [played(plan, (1, 2), (-3, 1)) for plan in PLANS]:
            self.assert_frac(track_area(one), asked_track_area(one))

    def test_moved_and_slowed(self):
        for one in TRACKS:
            self.assertEqual(track_area(track_moved(one, (-7, 3))), track_area(one))
            self.assert_frac(track_area(track_slowed(one, (7, 3))), told(track_area(one)) * Fraction(7, 3))


class RestsTest(ExactCase):
    def test_by_hand(self):
        self.assertEqual(rests(EMPTY), [])
        self.assertEqual(rests(ONE), [])
        self.assertEqual(rests(TOUCHING), [])
        self.assertEqual(rests(PAUSING), [((3, 1), (5, 1)), ((6, 1), (13, 2))])
        self.assertEqual(rests(STRAY), [((4, 1), (6, 1))])
        self.assertEqual(rests(FOUR), [((3, 1), (5, 1)), ((6, 1), (13, 2)), ((7, 1), (9, 1))])
        tiny = a_track(0, a_motion(0, 1, 0, 1, "in"), a_motion(1, 0, Fraction(HUGE + 1, HUGE), 1, "in"))
        self.assertEqual(rests(tiny), [((1, 1), (HUGE + 1, HUGE))])

    def test_of_many(self):
        for one in TRACKS + [FOUR]:
            asked = []
            for ahead, behind in zip(one[1], one[1][1:]):
                end = told(ahead[2]) + told(ahead[3])
                if end != told(behind[2]):
                    asked.append((pair(end), behind[2]))
            self.assertEqual(rests(one), asked)

    def test_moved_and_slowed(self):
        for one in TRACKS:
            later = [(told(end) - Fraction(7, 3), told(begin) - Fraction(7, 3)) for end, begin in rests(one)]
            slow = [(told(end) * Fraction(7, 3), told(begin) * Fraction(7, 3)) for end, begin in rests(one)]
            self.assertEqual(rests(track_moved(one, (-7, 3))), [(pair(end), pair(begin)) for end, begin in later])
            self.assertEqual(rests(track_slowed(one, (7, 3))), [(pair(end), pair(begin)) for end, begin in slow])

    def test_a_told_list_may_be_changed(self):
        for one in [EMPTY, PAUSING, STRAY]:
            self.assert_list_is_new(rests, one)


class BusyTravelReachTest(ExactCase):
    def test_without_motions(self):
        self.assertEqual(busy(EMPTY), (0, 1))
        self.assertEqual(travel(EMPTY), (0, 1))
        self.assertEqual(reach(EMPTY), ((5, 2), (5, 2)))

    def test_by_hand(self):
        asked = [
            (ONE, 4, 4, (0, 4)), (TOUCHING, 5, 7, (0, 4)), (PAUSING, "7/2", 13, (0, 7)), (STRAY, 5, 6, (0, 9)),
            (FOUR, "23/6", "41/3", (0, 7)),
        ]
        for one, long, way, ends in asked:
            self.assertEqual(busy(one), pair(long))
            self.assertEqual(travel(one), pair(way))
            self.assertEqual(reach(one), (pair(ends[0]), pair(ends[1])))

    def test_travel_of_ways_down_and_up_and_none(self):
        one = a_track(0, a_motion(3, -2, 0, 1, "in"), a_motion("-1/2", 1, 1, 1, "out"), a_motion(5, 5, 4, 9, "even"))
        self.assertEqual(travel(one), (13, 2))
        self.assertEqual(busy(one), (11, 1))

    def test_of_kept_only_start_and_goal_count(self):
        one = a_track(1, a_motion(1, 1, 0, 4, "kept", 100, 100))
        self.assertEqual(travel(one), (0, 1))
        self.assertEqual(reach(one), ((1, 1), (1, 1)))

    def test_reach_by_the_first_worth_a_start_or_a_goal(self):
        for first, start, goal in [(-9, 0, 1), (9, 0, 1), (0, -9, 1), (0, 9, 1), (0, 1, -9), (0, 1, 9)]:
            for ahead in [(), (a_motion(0, 1, 0, 1, "in"),)]:
                one = a_track(first, *ahead, a_motion(start, goal, 2, 1, "out"))
                worths = [first, start, goal] + ([0, 1] if ahead else [])
                self.assertEqual(reach(one), (pair(min(worths)), pair(max(worths))))

    def test_reach_is_by_worth_and_not_by_pythons_order(self):
        one = a_track("1/2", a_motion("1/3", "2/3", 0, 1, "in"))
        self.assertEqual(reach(one), ((1, 3), (2, 3)))
        self.assertEqual(reach(a_track(1, a_motion("2/3", "3/2", 0, 1, "in"))), ((2, 3), (3, 2)))

    def test_of_many(self):
        for one in TRACKS + [FOUR]:
            starts, goals = [told(part[0]) for part in one[1]], [told(part[1]) for part in one[1]]
            worths = [told(one[0])] + starts + goals
            self.assert_frac(busy(one), sum((told(part[3]) for part in one[1]), Fraction(0)))
            self.assert_frac(travel(one), sum((abs(a - b) for a, b in zip(starts, goals)), Fraction(0)))
            self.assertEqual(reach(one), (pair(min(worths)), pair(max(worths))))

    def test_moved_and_slowed(self):
        for one in TRACKS:
            later, slow = track_moved(one, (-7, 3)), track_slowed(one, (7, 3))
            self.assertEqual([busy(later), travel(later), reach(later)], [busy(one), travel(one), reach(one)])
            self.assertEqual([travel(slow), reach(slow)], [travel(one), reach(one)])
            self.assert_frac(busy(slow), told(busy(one)) * Fraction(7, 3))


class NoTrackTest(ExactCase):
    def test_things_of_every_sort(self):
        for thing in NO_TRACKS:
            for call in (track_area, rests, busy, travel, reach):
                with self.subTest(thing=thing, call=call.__name__):
                    self.assert_refused(NoTrack, call, thing)


class HandedInTest(ExactCase):
    def test_what_is_handed_in_is_as_it_was(self):
        for one in TRACKS:
            for call in (track_area, rests, busy, travel, reach):
                self.assert_keeps_given(call, one)
        for one in MOTIONS:
            self.assert_keeps_given(area, one)
            self.assert_keeps_given(mean, one)


if __name__ == "__main__":
    unittest.main()
