import unittest
from fractions import Fraction
from itertools import product

from exact import ExactCase, pair, told
from glideways.errors import NoTime, NoTrack
from glideways.marks import passed
from glideways.players import Player
from glideways.tracks import end_time, worth_of
from some_marks import SOME_MARKS, a_mark
from some_tracks import EMPTY, NO_TRACKS, ONE, PAUSING, STRAY, TINY, TOUCHING, TRACKS
from things import HUGE, a_motion, a_track

AT_NULL = a_track(3, a_motion(3, 5, -4, 4, "even"))
BELOW = a_track(3, a_motion(3, 5, -4, 1, "even"))
ENDLESS = [EMPTY, AT_NULL, BELOW]
MARKS = [a_mark(3, "three"), a_mark(0, "null"), a_mark(1, "one"), a_mark(3, "drei"), a_mark(6, "six")]


def state_of(player):
    return (player.time(), player.worth(), player.is_over(), player.all_heard())


def playing(track, marks, pace=1, at=0):
    player = Player(track, marks)
    player.set_pace(pair(pace))
    player.seek(pair(at))
    player.play()
    return player


def last_of(track):
    end = end_time(track)
    return Fraction(0) if end is None else max(Fraction(0), told(end))


class PlayerCase(ExactCase):
    def assert_state(self, player, time, worth, over, heard):
        self.assertEqual(player.time(), pair(time))
        self.assertEqual(player.worth(), pair(worth))
        self.assertIs(player.is_over(), over)
        self.assertEqual(player.all_heard(), heard)

    def assert_ticks(self, player, asked):
        """Each tick by so much shows such a time and tells such labels, and all_heard is all of them in turn."""
        heard = player.all_heard()
        for by, time, labels in asked:
            with self.subTest(by=by, time=time):
                self.assertEqual(player.tick(pair(by)), labels)
                heard += labels
                self.assertEqual(player.time(), pair(time))
                self.assertEqual(player.all_heard(), heard)

    def assert_changes_nothing(self, player, *refused):
        before = state_of(player)
        self.assert_refused(NoTime, *refused)
        self.assertEqual(state_of(player), before)


class MadeTest(PlayerCase):
    def test_at_first(self):
        self.assert_state(Player(ONE, MARKS), 0, 0, False, [])
        self.assert_state(Player(PAUSING, []), 0, 1, False, [])
        self.assert_state(Player(STRAY, MARKS), 0, 0, False, [])
        self.assert_state(Player(EMPTY, MARKS), 0, "5/2", True, [])
        self.assert_state(Player(AT_NULL, MARKS), 0, 5, True, [])
        self.assert_state(Player(BELOW, MARKS), 0, 5, True, [])

    def test_it_does_not_play_at_first_and_has_the_pace_1(self):
        player = Player(ONE, MARKS)
        self.assertEqual(player.tick((1, 1)), [])
        self.assert_state(player, 0, 0, False, [])
        player.play()
        self.assert_ticks(player, [("5/2", "5/2", ["one"])])

    def test_no_track(self):
        for thing in NO_TRACKS:
            with self.subTest(thing=thing):
                self.assert_refused(NoTrack, Player, thing, MARKS)
                self.assert_refused(NoTrack, Player, thing, [])

    def test_of_many_tracks(self):
        for track in TRACKS + ENDLESS:
            player = Player(track, [])
            over = last_of(track) == 0
            self.assert_state(player, 0, told(worth_of(track, (0, 1))), over, [])


class MethodsTest(PlayerCase):
    def test_play_pause_set_pace_and_seek_tell_none(self):
        player = Player(ONE, MARKS)
        for call in (player.play, player.pause):
            self.assertIsNone(call())
            self.assertIsNone(call())
        for call in (player.set_pace, player.seek):
            self.assertIsNone(call((2, 1)))
            self.assertIsNone(call((2, 1)))

    def test_play_and_pause_and_play(self):
        player = Player(ONE, MARKS)
        player.play()
        player.play()
        self.assert_ticks(player, [(1, 1, ["one"])])
        player.pause()
        self.assert_ticks(player, [(1, 1, []), (9, 1, [])])
        player.pause()
        self.assert_ticks(player, [(1, 1, [])])
        player.play()
        self.assert_ticks(player, [(2, 3, ["three", "drei"])])

    def test_set_pace_counts_from_the_next_tick_on(self):
        player = playing(ONE, MARKS)
        self.assert_ticks(player, [(2, 2, ["one"])])
        player.set_pace((1, 2))
        self.assertEqual(player.time(), (2, 1))
        self.assert_ticks(player, [(2, 3, ["three", "drei"])])
        player.set_pace((-1, 1))
        self.assert_ticks(player, [(1, 2, []), (2, 0, ["one", "null"])])
        player.set_pace((3, 1))
        self.assert_ticks(player, [(1, 3, ["one", "three", "drei"])])

    def test_set_pace_does_not_play_and_pause_keeps_the_pace(self):
        player = Player(ONE, MARKS)
        player.set_pace((2, 1))
        self.assert_ticks(player, [(1, 0, [])])
        player.play()
        player.pause()
        player.play()
        self.assert_ticks(player, [(1, 2, ["one"])])

    def test_seek_shows_the_time_and_passes_none(self):
        player = Player(ONE, MARKS)
        for time, worth in [(4, 2), (6, 4), (0, 0), ("7/2", "3/2"), ("7/2", "3/2"), (2, 0)]:
            player.seek(pair(time))
            self.assert_state(player, time, worth, time == 6, [])
        player.play()
        player.seek((3, 1))
        self.assert_state(player, 3, 1, False, [])
        self.assert_ticks(player, [(1, 4, []), (9, 6, ["six"])])
        player.seek((0, 1))
        self.assert_state(player, 0, 0, False, ["six"])

    def test_seek_to_both_ends(self):
        for track in TRACKS + ENDLESS:
            last = last_of(track)
            player = Player(track, MARKS)
            player.seek(pair(last))
            self.assert_state(player, last, told(worth_of(track, pair(last))), True, [])
            player.seek((0, 1))
            self.assertEqual(player.time(), (0, 1))

    def test_seek_below_0_or_behind_the_last_time(self):
        for track in TRACKS + ENDLESS:
            last = last_of(track)
            player = Player(track, MARKS)
            for at in [Fraction(0), last / 2, last]:
                player.seek(pair(at))
                for time in [-TINY, Fraction(-1), Fraction(-HUGE), last + TINY, last + 1, Fraction(HUGE)]:
                    self.assert_changes_nothing(player, player.seek, pair(time))


class TickTest(PlayerCase):
    def test_by_hand(self):
        self.assert_ticks(playing(ONE, MARKS), [
            ("1/2", "1/2", []), ("1/2", 1, ["one"]), (0, 1, []), (2, 3, ["three", "drei"]), ("1/2", "7/2", []),
            (9, 6, ["six"]), (9, 6, []), (0, 6, []),
        ])
        self.assert_ticks(playing(ONE, MARKS), [(6, 6, ["one", "three", "drei", "six"])])
        self.assert_ticks(playing(ONE, MARKS), [(HUGE, 6, ["one", "three", "drei", "six"])])

    def test_back(self):
        self.assert_ticks(playing(ONE, MARKS, -1, 6), [
            (1, 5, []), (1, 4, []), (1, 3, ["drei", "three"]), (1, 2, []), ("3/2", "1/2", ["one"]), (5, 0, ["null"]),
            (5, 0, []), (0, 0, []),
        ])
        self.assert_ticks(playing(ONE, MARKS, "-1/2", 6), [(6, 3, ["drei", "three"]), (HUGE, 0, ["one", "null"])])

    def test_by_a_pace_of_0(self):
        for at in (0, 3, 6):
            self.assert_ticks(playing(ONE, MARKS, 0, at), [(1, at, []), (HUGE, at, []), (0, at, [])])

    def test_while_it_does_not_play(self):
        for pace in ("1", "0", "-2"):
            player = Player(ONE, MARKS)
            player.set_pace(pair(pace))
            player.seek((3, 1))
            self.assert_ticks(player, [(1, 3, []), (0, 3, []), (HUGE, 3, [])])

    def test_below_0(self):
        for track, pace in product([ONE, PAUSING] + ENDLESS, ("1", "0", "-1", "5/2")):
            player = Player(track, MARKS)
            player.set_pace(pair(pace))
            for by in [-TINY, Fraction(-1), Fraction(-HUGE)]:
                self.assert_changes_nothing(player, player.tick, pair(by))
            player.play()
            player.tick((1, 1))
            for by in [-TINY, Fraction(-1), Fraction(-HUGE)]:
                self.assert_changes_nothing(player, player.tick, pair(by))

    def test_a_refused_tick_and_seek_neither_play_nor_pause(self):
        player = Player(ONE, MARKS)
        self.assert_refused(NoTime, player.tick, (-1, 1))
        self.assert_refused(NoTime, player.seek, (-1, 1))
        self.assertEqual(player.tick((1, 1)), [])
        player.play()
        self.assert_refused(NoTime, player.tick, (-1, 1))
        self.assert_refused(NoTime, player.seek, (7, 1))
        self.assertEqual(player.tick((1, 1)), ["one"])

    def test_tracks_that_end_at_or_below_0_or_not_at_all(self):
        for track, pace in product(ENDLESS, ("1", "0", "-1")):
            player = playing(track, MARKS, pace)
            self.assert_ticks(player, [(1, 0, []), (0, 0, []), (HUGE, 0, [])])
            self.assertIs(player.is_over(), True)

    def test_a_motion_that_goes_on_from_below_0(self):
        track = a_track(0, a_motion(0, 4, -2, 4, "even"))
        player = playing(track, [a_mark(-1, "a"), a_mark(0, "b"), a_mark(1, "c"), a_mark(3, "d")])
        self.assert_state(player, 0, 2, False, [])
        self.assert_ticks(player, [(1, 1, ["c"]), (5, 2, [])])
        player.set_pace((-1, 1))
        self.assert_ticks(player, [(9, 0, ["c", "b"])])
        self.assert_state(player, 0, 2, True, ["c", "c", "b"])

    def test_of_many(self):
        tracks = [ONE, TOUCHING, PAUSING, STRAY] + ENDLESS
        for track, marks, pace in product(tracks, SOME_MARKS, ("1", "0", "-1", "2/3", "-7/2")):
            last = last_of(track)
            for at in [Fraction(0), last / 3, last]:
                player = playing(track, marks, pace, at)
                now, heard = at, []
                for by in ["1/2", "0", "3", "1/7", "9"]:
                    goal = min(max(now + Fraction(by) * Fraction(pace), Fraction(0)), last)
                    labels = passed(marks, pair(now), pair(goal))
                    now, heard = goal, heard + labels
                    self.assertEqual(player.tick(pair(by)), labels)
                    over = now == (0 if Fraction(pace) < 0 else last)
                    self.assert_state(player, now, told(worth_of(track, pair(now))), over, heard)

    def test_by_way_of_a_time_between_it_is_what_is_passed_at_once(self):
        for pace, at in [("1", 0), ("-1", 6), ("3/2", 0), ("-3/2", 6)]:
            for first, second in product(["0", "1/3", "1", "2", "3", "5", "9"], repeat=2):
                by_way, at_once = playing(ONE, MARKS, pace, at), playing(ONE, MARKS, pace, at)
                labels = by_way.tick(pair(first)) + by_way.tick(pair(second))
                self.assertEqual(at_once.tick(pair(Fraction(first) + Fraction(second))), labels)
                self.assertEqual(state_of(by_way), state_of(at_once))

    def test_forth_and_back_it_is_where_it_was(self):
        for at, by, pace in product(["0", "1", "5/2", "3", "5"], ["0", "1/2", "1"], ["1", "-1", "1/3"]):
            player = playing(ONE, MARKS, pace, at)
            if 0 <= Fraction(at) + Fraction(by) * Fraction(pace) <= 6:
                player.tick(pair(by))
                player.set_pace(pair(-Fraction(pace)))
                player.tick(pair(by))
                self.assertEqual(player.time(), pair(at))
                self.assertEqual(player.worth(), worth_of(ONE, pair(at)))


class IsOverTest(PlayerCase):
    def test_by_pace_and_time(self):
        for pace, at, over in [
            ("1", 0, False), ("1", 3, False), ("1", 6, True), ("0", 0, False), ("0", 3, False), ("0", 6, True),
            ("-1", 0, True), ("-1", 3, False), ("-1", 6, False), ("-1/9", 0, True), ("1/9", 6, True),
        ]:
            with self.subTest(pace=pace, at=at):
                self.assertIs(playing(ONE, MARKS, pace, at).is_over(), over)

    def test_while_it_does_not_play(self):
        player = Player(ONE, MARKS)
        player.set_pace((-1, 1))
        self.assertIs(player.is_over(), True)
        player.set_pace((0, 1))
        self.assertIs(player.is_over(), False)
        player.seek((6, 1))
        self.assertIs(player.is_over(), True)


class ByItselfTest(PlayerCase):
    def test_told_lists_may_be_changed(self):
        player = playing(ONE, MARKS)
        labels = player.tick((1, 1))
        labels.append("changed")
        self.assertEqual(player.all_heard(), ["one"])
        labels.clear()
        self.assertEqual(player.all_heard(), ["one"])
        self.assert_list_is_new(player.all_heard)
        player.pause()
        player.tick((1, 1)).append("changed")
        self.assertEqual(player.tick((1, 1)), [])
        player.play()
        player.tick((0, 1)).append("changed")
        self.assertEqual(player.tick((0, 1)), [])
        self.assertEqual(player.all_heard(), ["one"])
        heard = player.all_heard()
        player.tick((2, 1))
        self.assertEqual(heard, ["one"])

    def test_the_marks_handed_in_may_be_changed(self):
        for change in [list.clear, list.reverse, lambda marks: marks.append(a_mark(2, "more"))]:
            marks = list(MARKS)
            player, asked = playing(ONE, marks), playing(ONE, MARKS)
            change(marks)
            self.assertEqual(player.tick((2, 1)), asked.tick((2, 1)))
            change(marks)
            self.assertEqual(player.tick((9, 1)), asked.tick((9, 1)))
            self.assertEqual(state_of(player), state_of(asked))

    def test_the_marks_handed_in_are_not_changed(self):
        marks = list(MARKS)
        player = playing(ONE, marks)
        player.tick((9, 1))
        player.set_pace((-1, 1))
        player.tick((9, 1))
        self.assertEqual(marks, MARKS)

    def test_two_players_go_by_themselves(self):
        marks = list(MARKS)
        one, other = Player(ONE, marks), Player(ONE, marks)
        before = state_of(other)
        one.play()
        one.set_pace((2, 1))
        self.assertEqual(one.tick((2, 1)), ["one", "three", "drei"])
        self.assertEqual(state_of(other), before)
        self.assertEqual(other.tick((1, 1)), [])
        other.play()
        self.assertEqual(other.tick((1, 1)), ["one"])
        one.seek((6, 1))
        one.pause()
        self.assertEqual(other.tick((1, 1)), [])
        self.assert_state(other, 2, 0, False, ["one"])
        self.assert_state(one, 6, 4, True, ["one", "three", "drei"])


if __name__ == "__main__":
    unittest.main()
