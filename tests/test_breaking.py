import unittest
from fractions import Fraction

from exact import ExactCase, pair, told
from glideways.breaking import (
    begun, broken, comes_to, goes_till, held, is_run, kept_going, speed_on, turned_round, worth_on,
)
from glideways.errors import NoKind, NoTime
from glideways.motions import end_of
from glideways.tracks import end_time, last_worth, speed_of, with_motion, worth_of
from measures import KINDS
from things import HUGE, NO_KINDS, OTHER_THINGS, STILL, a_motion, a_track, nested, spoilt_run

TINY = Fraction(1, 10 ** 40)
EMPTY = a_track("5/2")
ONE = a_track(0, a_motion(0, 4, 2, 4, "even"))
PAUSING = a_track(1, a_motion(1, 3, 1, 2, "in"), a_motion(3, -1, 5, 2, "out"), a_motion(-1, 2, 8, 4, "both"))
LEAPING = a_track(0, a_motion(0, 1, 0, 2, "hold"), a_motion(1, 5, 2, 2, "jump"), a_motion(5, 4, 6, 1, "even"))
TRACKS = [EMPTY, ONE, PAUSING, LEAPING]
SEVERAL = (
    (None, ONE), ((1, 2), a_track(7)), ((3, 1), a_track(1, a_motion(1, 9, 3, 2, "kept", 1, -1))), ((11, 3), EMPTY),
    ((4, 1), PAUSING),
)
RUNS = [begun(one) for one in TRACKS] + [SEVERAL[:many] for many in (2, 3, 4, 5)]
BREAKS = ["-3", "0", "1/2", "1", "2", "11/4", "3", "4", "5", "11/2", "6", "13/2", "7", "9", "12", "40"]


def later_breaks(run):
    last = run[-1][0]
    return [Fraction(one) for one in BREAKS if last is None or Fraction(one) > told(last)]


def times_ahead(time):
    return [time - one for one in (TINY, Fraction(1, 7), Fraction(1, 2), 1, 2, Fraction(17, 5), 5, 8, 30)]


def times_behind(time):
    return [time + one for one in (TINY, Fraction(1, 7), Fraction(1, 2), 1, 2, Fraction(17, 5), 5, 8, 30)]


class RunCase(ExactCase):
    def assert_as_it_was(self, found, run, time):
        """One piece more, from this time on, and up to it all as it was."""
        self.assertIs(is_run(found), True)
        self.assertEqual(found[:-1], run)
        self.assertEqual(found[-1][0], pair(time))
        for one in times_ahead(time):
            self.assertEqual(worth_on(found, pair(one)), worth_on(run, pair(one)))
            self.assertEqual(speed_on(found, pair(one)), speed_on(run, pair(one)))

    def assert_near(self, one, other):
        self.assertLess(abs(told(one) - told(other)), TINY * 10 ** 6)


class IsRunTest(RunCase):
    def test_right_ones_and_things_of_every_other_sort(self):
        self.assert_only(is_run, RUNS, OTHER_THINGS + TRACKS + [ONE[1][0], ("wait", (1, 1))])

    def test_each_part_spoilt_in_turn(self):
        for run in [begun(EMPTY), begun(ONE), SEVERAL[:3]]:
            self.assert_only(is_run, [run], spoilt_run(run))

    def test_times_that_do_not_rise(self):
        first = (None, ONE)
        for left, right, answer in [
            (1, 2, True), (-2, -1, True), ("1/3", "1/2", True), ("5/2", 3, True), (2, 1, False), (-1, -2, False),
            ("1/2", "1/3", False), (3, "5/2", False), (2, 2, False), ("1/2", "1/2", False),
        ]:
            with self.subTest(left=left, right=right):
                self.assertIs(is_run((first, (pair(left), ONE), (pair(right), EMPTY))), answer)

    def test_a_first_piece_with_a_time_and_a_later_one_without(self):
        self.assert_only(is_run, [], [
            (((0, 1), ONE),), (((0, 1), ONE), ((1, 1), ONE)), ((None, ONE), (None, ONE)),
            ((None, ONE), ((1, 1), ONE), (None, ONE)), (((1, 1), ONE), (None, ONE)), (),
        ])

    def test_a_later_piece_may_have_motions_ahead_of_its_time(self):
        self.assertIs(is_run(((None, EMPTY), ((99, 1), PAUSING))), True)

    def test_many_pieces(self):
        many = tuple(((k, 3), ONE) for k in (1, 2, 4, 5, 7, 8, 10, 11))
        self.assertIs(is_run(((None, EMPTY),) + many), True)
        self.assertIs(is_run(((None, EMPTY),) + many[::-1]), False)

    def test_deep_things(self):
        self.assert_only(is_run, [], [nested(begun(ONE), deep) for deep in range(1, 11)])


class CountingTest(RunCase):
    def test_begun(self):
        for one in TRACKS:
            self.assertEqual(begun(one), ((None, one),))
            for time in [Fraction(text) for text in BREAKS]:
                self.assertEqual(worth_on(begun(one), pair(time)), worth_of(one, pair(time)))
                self.assertEqual(speed_on(begun(one), pair(time)), speed_of(one, pair(time)))
            self.assertEqual(goes_till(begun(one)), end_time(one))
            self.assertEqual(comes_to(begun(one)), last_worth(one))

    def test_by_hand_at_ahead_of_and_behind_each_break(self):
        # At 7/2 kept is a quarter on: both tells 1 + 8 * 5/32, the speeds 2 * 9/64 and 2 * -1 * -3/64 more.
        asked = [
            (-9, 0, 0), (0, 0, 0), ("49/100", 0, 0), ("1/2", 7, 0), (1, 7, 0), (2, 7, 0), (3, 1, 1),
            ("7/2", "21/8", 5), ("11/3", "5/2", 0), ("39/10", "5/2", 0), (4, 3, 0), (6, 0, -2), (7, -1, 0),
            (10, "1/2", "9/8"), (99, 2, 0),
        ]
        for time, worth, speed in asked:
            with self.subTest(time=time):
                self.assertEqual(worth_on(SEVERAL, pair(time)), pair(worth))
                self.assertEqual(speed_on(SEVERAL, pair(time)), pair(speed))

    def test_that_piece_counts_whose_time_is_the_last_at_it_or_ahead(self):
        for run in RUNS:
            for place, piece in enumerate(run):
                start = Fraction(-50) if piece[0] is None else told(piece[0])
                end = told(run[place + 1][0]) if place + 1 < len(run) else start + 50
                for time in [start, start + TINY, (start + end) / 2, end - TINY]:
                    self.assertEqual(worth_on(run, pair(time)), worth_of(piece[1], pair(time)))
                    self.assertEqual(speed_on(run, pair(time)), speed_of(piece[1], pair(time)))

    def test_goes_till_and_comes_to(self):
        self.assertIsNone(goes_till(begun(EMPTY)))
        self.assertEqual(goes_till(SEVERAL[:2]), (1, 2))
        self.assertEqual(goes_till(SEVERAL[:3]), (5, 1))
        self.assertEqual(goes_till(SEVERAL[:4]), (11, 3))
        self.assertEqual(goes_till(SEVERAL), (12, 1))
        # Of the last piece's track alone, also where that was over ahead of the piece.
        self.assertEqual(goes_till(((None, EMPTY), ((99, 1), ONE))), (6, 1))
        asked = [(SEVERAL[:2], 7), (SEVERAL[:3], 9), (SEVERAL[:4], "5/2"), (SEVERAL, 2), (begun(EMPTY), "5/2")]
        for run, worth in asked:
            self.assertEqual(comes_to(run), pair(worth))


class BrokenTest(RunCase):
    def test_by_hand(self):
        found = broken(begun(ONE), (3, 1), (-5, 1), (2, 1), "in")
        self.assertEqual(found, ((None, ONE), ((3, 1), a_track(1, a_motion(1, -5, 3, 2, "in")))))
        again = broken(found, (4, 1), (0, 1), (1, 2), "jump")
        self.assertEqual(again, found + (((4, 1), a_track("-1/2", a_motion("-1/2", 0, 4, "1/2", "jump"))),))

    def test_by_every_kind_everywhere(self):
        for run in RUNS:
            for time in later_breaks(run):
                for kind in KINDS:
                    with self.subTest(run=run, time=time, kind=kind):
                        found = broken(run, pair(time), (7, 3), (5, 2), kind)
                        here = worth_on(run, pair(time))
                        motion = (here, (7, 3), pair(time), (5, 2), kind, STILL)
                        self.assert_as_it_was(found, run, time)
                        self.assertEqual(found[-1], (pair(time), (here, (motion,))))
                        self.assertEqual(worth_on(found, pair(time)), here)
                        if kind != "jump":
                            self.assert_near(worth_on(found, pair(time + TINY)), here)
                        self.assertEqual(goes_till(found), pair(time + Fraction(5, 2)))
                        self.assertEqual(comes_to(found), (7, 3))
                        self.assertEqual(worth_on(found, goes_till(found)), (7, 3))

    def test_again_and_again(self):
        run = begun(PAUSING)
        for place, kind in enumerate(KINDS[:4]):
            time = Fraction(2 * place + 1, 2)
            found = broken(run, pair(time), (place * 5, 1), (3, 1), kind)
            self.assert_as_it_was(found, run, time)
            run = found
        self.assertEqual([piece[0] for piece in run], [None, (1, 2), (3, 2), (5, 2), (7, 2)])

    def test_refusals(self):
        for run in RUNS:
            last = run[-1][0]
            for time in [] if last is None else [told(last), told(last) - TINY, told(last) - 9]:
                self.assert_refused(NoTime, broken, run, pair(time), (1, 1), (1, 1), "even")
            for thing in NO_KINDS:
                self.assert_refused(NoKind, broken, run, (99, 1), (1, 1), (1, 1), thing)
            for long in [(0, 1), (-1, 1), (-1, HUGE)]:
                self.assert_refused(NoTime, broken, run, (99, 1), (1, 1), long, "even")

    def test_two_reasons_at_once(self):
        for run in RUNS[4:]:
            for kind in ["even", "kept", None, ["even"]]:
                for long in [(1, 1), (0, 1), (-1, 1)]:
                    self.assert_refused(NoTime, broken, run, run[-1][0], (1, 1), long, kind)
                    if kind != "even":
                        self.assert_refused(NoKind, broken, run, (99, 1), (1, 1), long, kind)

    def test_a_first_piece_refuses_no_time(self):
        for time in [(-HUGE, 1), (0, 1), (HUGE, 1)]:
            self.assertEqual(broken(begun(ONE), time, (1, 1), (1, 1), "even")[-1][0], time)


class HeldTest(RunCase):
    def test_by_hand(self):
        self.assertEqual(held(begun(ONE), (5, 1)), ((None, ONE), ((5, 1), a_track(3))))
        self.assertEqual(held(begun(ONE), (1, 1)), ((None, ONE), ((1, 1), a_track(0))))

    def test_from_then_on_it_stays(self):
        for run in RUNS:
            for time in later_breaks(run):
                found = held(run, pair(time))
                here = worth_on(run, pair(time))
                self.assert_as_it_was(found, run, time)
                self.assertEqual(found[-1], (pair(time), (here, ())))
                for one in [time] + times_behind(time):
                    self.assertEqual(worth_on(found, pair(one)), here)
                    self.assertEqual(speed_on(found, pair(one)), (0, 1))
                self.assertEqual((goes_till(found), comes_to(found)), (pair(time), here))

    def test_no_time(self):
        for run in RUNS[4:]:
            for time in [told(run[-1][0]), told(run[-1][0]) - TINY, Fraction(-HUGE)]:
                self.assert_refused(NoTime, held, run, pair(time))


class KeptGoingTest(RunCase):
    def test_by_hand(self):
        found = kept_going(begun(ONE), (3, 1), (-5, 1), (2, 1))
        self.assertEqual(found, ((None, ONE), ((3, 1), a_track(1, a_motion(1, -5, 3, 2, "kept", 1, 0)))))
        found = kept_going(begun(PAUSING), (6, 1), (4, 1), (1, 2))
        self.assertEqual(found[-1], ((6, 1), a_track(0, a_motion(0, 4, 6, "1/2", "kept", -2, 0))))

    def test_it_goes_on_just_as_fast(self):
        for run in RUNS:
            for time in later_breaks(run):
                with self.subTest(run=run, time=time):
                    found = kept_going(run, pair(time), (7, 3), (5, 2))
                    here, speed = worth_on(run, pair(time)), speed_on(run, pair(time))
                    motion = (here, (7, 3), pair(time), (5, 2), "kept", (speed, (0, 1)))
                    self.assert_as_it_was(found, run, time)
                    self.assertEqual(found[-1], (pair(time), (here, (motion,))))
                    self.assertEqual(worth_on(found, pair(time)), here)
                    self.assertEqual(speed_on(found, pair(time)), speed)
                    self.assert_near(worth_on(found, pair(time + TINY)), here)
                    self.assert_near(speed_on(found, pair(time + TINY)), speed)
                    self.assert_near(speed_on(found, pair(time + Fraction(5, 2) - TINY)), (0, 1))
                    self.assertEqual(worth_on(found, goes_till(found)), (7, 3))

    def test_again_and_again(self):
        run = begun(ONE)
        for time in (3, 4, 5, 6):
            found = kept_going(run, (time, 1), pair(Fraction(time * 7, 2)), (9, 1))
            self.assert_as_it_was(found, run, Fraction(time))
            self.assertEqual(speed_on(found, (time, 1)), speed_on(run, (time, 1)))
            run = found
        self.assertNotEqual(speed_on(run, (6, 1)), (0, 1))

    def test_no_time(self):
        for run in RUNS:
            for long in [(0, 1), (-1, 1), (-1, HUGE)]:
                self.assert_refused(NoTime, kept_going, run, (99, 1), (1, 1), long)
            for long in [] if run[-1][0] is None else [(1, 1), (0, 1), (-1, 1)]:
                for time in [told(run[-1][0]), told(run[-1][0]) - TINY, Fraction(-HUGE)]:
                    self.assert_refused(NoTime, kept_going, run, pair(time), (1, 1), long)


class TurnedRoundTest(RunCase):
    def test_ahead_of_all_motions(self):
        self.assertEqual(turned_round(begun(ONE), (1, 1))[-1], ((1, 1), a_track(0)))
        # At its very beginning no motion has begun ahead of the time.
        self.assertEqual(turned_round(begun(ONE), (2, 1))[-1], ((2, 1), a_track(0)))
        self.assertEqual(turned_round(begun(EMPTY), (7, 1))[-1], ((7, 1), EMPTY))

    def test_in_a_motion(self):
        found = turned_round(begun(ONE), (3, 1))
        self.assertEqual(found[-1], ((3, 1), a_track(4, a_motion(4, 0, 0, 4, "even"))))
        self.assertEqual(worth_on(found, (3, 1)), (1, 1))
        self.assertEqual(worth_on(found, (7, 2)), (1, 2))
        self.assertEqual(worth_on(found, (4, 1)), (0, 1))
        self.assertEqual(goes_till(found), (4, 1))
        self.assertEqual(comes_to(found), (0, 1))

    def test_in_a_pause(self):
        found = turned_round(begun(PAUSING), (9, 2))
        self.assertEqual(found[-1], ((9, 2), a_track(3, a_motion(3, 1, 6, 2, "out"))))

    def test_at_the_beginning_of_a_later_motion(self):
        found = turned_round(begun(PAUSING), (5, 1))
        self.assertEqual(found[-1], ((5, 1), a_track(3, a_motion(3, 1, 7, 2, "out"))))

    def test_in_a_later_motion(self):
        found = turned_round(begun(PAUSING), (6, 1))
        asked = a_track(-1, a_motion(-1, 3, 5, 2, "in"), a_motion(3, 1, 9, 2, "out"))
        self.assertEqual(found[-1], ((6, 1), asked))

    def test_behind_all(self):
        found = turned_round(begun(PAUSING), (20, 1))
        asked = a_track(
            2, a_motion(2, -1, 28, 4, "both"), a_motion(-1, 3, 33, 2, "in"), a_motion(3, 1, 37, 2, "out"),
        )
        self.assertEqual(found[-1], ((20, 1), asked))

    def test_hold_jump_and_kept(self):
        found = turned_round(begun(LEAPING), (3, 1))
        asked = a_track(5, a_motion(5, 1, 2, 2, "hold"), a_motion(1, 0, 4, 2, "jump"))
        self.assertEqual(found[-1], ((3, 1), asked))
        run = begun(a_track(1, a_motion(1, 9, 3, 2, "kept", 1, -2)))
        self.assertEqual(turned_round(run, (4, 1))[-1], ((4, 1), a_track(9, a_motion(9, 1, 3, 2, "kept", 2, -1))))

    def test_it_goes_back_the_way_it_came(self):
        for run in [begun(one) for one in TRACKS]:
            for time in later_breaks(run):
                found = turned_round(run, pair(time))
                self.assert_as_it_was(found, run, time)
                for one in [Fraction(0)] + [apart - time for apart in times_behind(time)]:
                    with self.subTest(run=run, time=time, apart=one):
                        back = worth_on(found, pair(time + one))
                        self.assertEqual(back, worth_on(run, pair(time - one)))

    def test_of_a_last_piece_it_goes_back_as_far_as_that_came(self):
        for run in [broken(begun(ONE), (3, 1), (9, 1), (4, 1), kind) for kind in KINDS]:
            for time in [4, 5, 7, 8]:
                found = turned_round(run, (time, 1))
                self.assert_as_it_was(found, run, Fraction(time))
                for apart in range(1, 40):
                    came = worth_on(run, pair(max(Fraction(3), time - Fraction(apart, 4))))
                    self.assertEqual(worth_on(found, pair(time + Fraction(apart, 4))), came)

    def test_times_and_first_worth_of_each_motion(self):
        for run in RUNS:
            for time in later_breaks(run):
                found = turned_round(run, pair(time))[-1][1]
                came = [one for one in run[-1][1][1] if told(one[2]) < time]
                self.assertEqual(len(found[1]), len(came))
                for one, other in zip(found[1], reversed(came)):
                    self.assertEqual(told(end_of(one)) - time, time - told(other[2]))
                    self.assertEqual((one[0], one[1], one[3]), (other[1], other[0], other[3]))
                self.assertEqual(found[0], found[1][0][0] if found[1] else worth_on(run, pair(time)))

    def test_turned_round_again(self):
        once = turned_round(begun(ONE), (5, 1))
        twice = turned_round(once, (6, 1))
        self.assertEqual(twice[-1], ((6, 1), a_track(0, a_motion(0, 4, 4, 4, "even"))))
        for apart in range(0, 30):
            # Round at 5 and again at 6 it is 2 later than at first.
            time = Fraction(12 + apart, 2)
            self.assertEqual(worth_on(twice, pair(time)), worth_of(ONE, pair(time - 2)))
        for one in [PAUSING, LEAPING]:
            once = turned_round(begun(one), (7, 1))
            twice = turned_round(once, (9, 1))
            self.assert_as_it_was(twice, once, Fraction(9))
            for apart in range(0, 9):
                time = 9 + Fraction(apart, 4)
                self.assertEqual(worth_on(twice, pair(time)), worth_on(once, pair(18 - time)))

    def test_broken_again_and_again(self):
        run = kept_going(turned_round(begun(ONE), (5, 1)), (6, 1), (8, 1), (2, 1))
        self.assertEqual(run[-1], ((6, 1), a_track(2, a_motion(2, 8, 6, 2, "kept", -1, 0))))
        run = turned_round(held(run, (7, 1)), (8, 1))
        self.assertEqual(run[-1], ((8, 1), (run[-2][1][0], ())))
        self.assertEqual(len(run), 5)
        self.assertIs(is_run(run), True)

    def test_no_time(self):
        for run in RUNS[4:]:
            for time in [told(run[-1][0]), told(run[-1][0]) - TINY, Fraction(-HUGE)]:
                self.assert_refused(NoTime, turned_round, run, pair(time))


class HandedInTest(RunCase):
    def test_what_is_handed_in_is_as_it_was(self):
        for run in RUNS:
            for call in [goes_till, comes_to]:
                self.assert_keeps_given(call, run)
            for call in [worth_on, speed_on, held, turned_round]:
                self.assert_keeps_given(call, run, (50, 1))
            self.assert_keeps_given(broken, run, (50, 1), (1, 1), (1, 1), "in")
            self.assert_keeps_given(kept_going, run, (50, 1), (1, 1), (1, 1))
        self.assert_keeps_given(begun, with_motion(PAUSING, (1, 1), (20, 1), (1, 1), "out"))


if __name__ == "__main__":
    unittest.main()
