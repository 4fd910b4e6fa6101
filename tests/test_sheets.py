import unittest
from fractions import Fraction
from itertools import permutations

from exact import ExactCase, pair, told
from glideways.errors import NoName, NoPlan
from glideways.plans import played
from glideways.sheets import added, going, last_end, put_off, shown, staggered, with_track, without_track
from glideways.tracks import is_track, track_moved
from some_plans import BY, GO, NO_PLANS, NOTHING, PLANS, WAIT, again, then
from some_tracks import EMPTY, ONE, PAUSING, STRAY, TINY, TOUCHING, TRACKS, asked_worth_of, times_of
from things import HUGE, a_motion, a_track

EARLY = a_track("-1/2", a_motion("-1/2", 6, -9, 3, "jump"))
SEVERAL = {"b": TOUCHING, "a": PAUSING, "C": ONE, "": EMPTY}
SHEETS = [
    {}, {"x": EMPTY}, {"x": ONE}, {"x": EARLY}, {"y": EMPTY, "x": EMPTY}, {"one": ONE, "two": ONE},
    {"b": TOUCHING, "a": STRAY}, SEVERAL, {"d": EARLY, "a b": STRAY, "aa": PAUSING, "a": TOUCHING},
]


def times_about(sheet):
    times = {Fraction(0)}
    for track in sheet.values():
        times.update(times_of(track))
    return sorted(times)


def ends_of(track):
    return [told(part[2]) + told(part[3]) for part in track[1]]


def goes_at(track, time):
    return any(told(part[2]) <= time < end for part, end in zip(track[1], ends_of(track)))


class ShownTest(ExactCase):
    def test_by_hand(self):
        self.assertEqual(shown({}, (1, 1)), {})
        self.assertEqual(shown({"x": EMPTY}, (1, 1)), {"x": (5, 2)})
        self.assertEqual(shown({"x": ONE}, (3, 1)), {"x": (1, 1)})
        self.assertEqual(shown(SEVERAL, (3, 1)), {"b": (7, 3), "a": (3, 1), "C": (1, 1), "": (5, 2)})
        self.assertEqual(shown(SEVERAL, (-3, 1)), {"b": (0, 1), "a": (1, 1), "C": (0, 1), "": (5, 2)})
        self.assertEqual(shown(SEVERAL, (99, 1)), {"b": (1, 1), "a": (0, 1), "C": (4, 1), "": (5, 2)})

    def test_at_all_edges(self):
        for sheet in SHEETS + [{"x": track} for track in TRACKS]:
            for time in times_about(sheet):
                asked = {name: pair(asked_worth_of(track, time)) for name, track in sheet.items()}
                self.assertEqual(shown(sheet, pair(time)), asked)

    def test_a_told_dict_may_be_changed(self):
        for sheet in SHEETS:
            self.assert_dict_is_new(shown, sheet, (3, 1))


class LastEndTest(ExactCase):
    def test_without_motions(self):
        self.assertIsNone(last_end({}))
        self.assertIsNone(last_end({"x": EMPTY}))
        self.assertIsNone(last_end({"x": EMPTY, "y": a_track(7)}))

    def test_by_hand(self):
        self.assertEqual(last_end({"x": ONE}), (6, 1))
        self.assertEqual(last_end({"x": EARLY}), (-6, 1))
        self.assertEqual(last_end({"x": EMPTY, "y": EARLY, "z": EMPTY}), (-6, 1))
        self.assertEqual(last_end(SEVERAL), (7, 1))

    def test_the_latest_by_time_wherever_it_stands(self):
        # By Python's own order of tuples, (7, 3) would come behind (5, 1) and (11, 2).
        tracks = [a_track(0, a_motion(0, 1, 0, long, "in")) for long in ("7/3", 5, "11/2")]
        for turn in permutations(tracks):
            self.assertEqual(last_end(dict(zip("abc", turn))), (11, 2))

    def test_of_many(self):
        for sheet in SHEETS:
            ends = [end for track in sheet.values() for end in ends_of(track)]
            self.assertEqual(last_end(sheet), pair(max(ends)) if ends else None)


class GoingTest(ExactCase):
    def assert_going(self, sheet, asked):
        for time, names in asked:
            with self.subTest(time=time):
                self.assertEqual(going(sheet, pair(time)), names)

    def test_without_motions(self):
        self.assert_going({}, [(0, [])])
        self.assert_going({"x": EMPTY, "y": EMPTY}, [(-1, []), (0, []), (9, [])])

    def test_one_track(self):
        asked = [(1, []), (2 - TINY, []), (2, ["x"]), (3, ["x"]), (6 - TINY, ["x"]), (6, []), (6 + TINY, []), (9, [])]
        self.assert_going({"x": ONE}, asked)

    def test_pauses_and_motions_that_touch(self):
        self.assert_going({"x": TOUCHING}, [(-1, []), (0, ["x"]), (2 - TINY, ["x"]), (2, ["x"]), (5, [])])
        self.assert_going({"x": PAUSING}, [
            (0, []), (1, ["x"]), (3 - TINY, ["x"]), (3, []), (4, []), (5, ["x"]), (6, []), ("25/4", []),
            ("13/2", ["x"]), (7, []),
        ])

    def test_rising_names(self):
        sheet = {"b": ONE, "a": ONE, "ab": ONE, "B": ONE}
        self.assert_going(sheet, [(1, []), (3, ["B", "a", "ab", "b"]), (6, [])])
        self.assert_going(SEVERAL, [
            ("1/2", ["b"]), (1, ["a", "b"]), (2, ["C", "a", "b"]), (3, ["C", "b"]), (5, ["C", "a"]), (6, []),
            ("27/4", ["a"]),
        ])

    def test_of_many(self):
        for sheet in SHEETS + [{"x": track} for track in TRACKS]:
            for time in times_about(sheet):
                asked = sorted(name for name, track in sheet.items() if goes_at(track, time))
                self.assertEqual(going(sheet, pair(time)), asked)

    def test_a_told_list_may_be_changed(self):
        for sheet in SHEETS:
            self.assert_list_is_new(going, sheet, (3, 1))


class AddedTest(ExactCase):
    def test_by_hand(self):
        self.assertEqual(added({}, (3, 1)), (0, 1))
        self.assertEqual(added({"x": EMPTY}, (3, 1)), (5, 2))
        self.assertEqual(added({"x": EMPTY, "y": EMPTY}, (3, 1)), (5, 1))
        self.assertEqual(added({"x": EARLY, "y": EMPTY}, (-10, 1)), (2, 1))
        self.assertEqual(added(SEVERAL, (3, 1)), (53, 6))

    def test_of_many(self):
        for sheet in SHEETS:
            for time in times_about(sheet):
                asked = sum((asked_worth_of(track, time) for track in sheet.values()), Fraction(0))
                self.assert_frac(added(sheet, pair(time)), asked)


class WithAndWithoutTest(ExactCase):
    def test_a_new_name(self):
        self.assertEqual(with_track({}, "x", ONE), {"x": ONE})
        self.assertEqual(with_track({"x": ONE}, "y", EMPTY), {"x": ONE, "y": EMPTY})
        self.assertEqual(with_track({"x": ONE}, "", ONE), {"x": ONE, "": ONE})
        self.assertEqual(with_track({"x": ONE}, "X", EMPTY), {"x": ONE, "X": EMPTY})

    def test_in_the_stead_of_one(self):
        self.assertEqual(with_track({"x": ONE}, "x", EMPTY), {"x": EMPTY})
        self.assertEqual(with_track({"x": ONE}, "x", ONE), {"x": ONE})
        asked = {"b": TOUCHING, "a": STRAY, "C": ONE, "": EMPTY}
        self.assertEqual(with_track(SEVERAL, "a", STRAY), asked)

    def test_without_track(self):
        self.assertEqual(without_track({"x": ONE}, "x"), {})
        self.assertEqual(without_track(SEVERAL, "a"), {"b": TOUCHING, "C": ONE, "": EMPTY})
        self.assertEqual(without_track(SEVERAL, ""), {"b": TOUCHING, "a": PAUSING, "C": ONE})

    def test_put_off(self):
        self.assertEqual(put_off({"x": EMPTY}, "x", (3, 1)), {"x": EMPTY})
        asked = {"x": a_track(0, a_motion(0, 4, "9/2", 4, "even")), "y": ONE}
        self.assertEqual(put_off({"x": ONE, "y": ONE}, "x", (5, 2)), asked)
        asked = {"x": ONE, "y": a_track(0, a_motion(0, 4, -1, 4, "even"))}
        self.assertEqual(put_off({"x": ONE, "y": ONE}, "y", (-3, 1)), asked)

    def test_put_off_of_many(self):
        for sheet in SHEETS:
            for name in sheet:
                for by in [(0, 1), (1, 3), (-7, 2), (HUGE, 1)]:
                    found = put_off(sheet, name, by)
                    self.assertEqual(found, {**sheet, name: track_moved(sheet[name], by)})
                    for time in [Fraction(-1, 2), Fraction(3), Fraction(17, 3)]:
                        there = shown(found, pair(time + told(by)))[name]
                        self.assertEqual(there, shown(sheet, pair(time))[name])

    def test_no_name(self):
        for sheet in SHEETS:
            for name in ["q", "A", "xx", "x ", " x", "None", "0"]:
                self.assert_refused(NoName, without_track, sheet, name)
                self.assert_refused(NoName, put_off, sheet, name, (1, 1))
        self.assert_refused(NoName, without_track, {"x": ONE}, "")
        self.assert_refused(NoName, put_off, {}, "", (0, 1))

    def test_the_handed_sheet_is_as_it_was_and_the_told_one_new(self):
        for sheet in SHEETS:
            self.assert_keeps_given(with_track, sheet, "q", ONE)
            self.assert_dict_is_new(with_track, sheet, "q", ONE)
            for name in sheet:
                self.assert_tells_another_sheet(with_track, sheet, name, STRAY)
                self.assert_tells_another_sheet(without_track, sheet, name)
                self.assert_tells_another_sheet(put_off, sheet, name, (1, 1))
                self.assert_tells_another_sheet(put_off, sheet, name, (0, 1))

    def assert_tells_another_sheet(self, call, sheet, *given):
        before = dict(sheet)
        found = call(sheet, *given)
        self.assertIsNot(found, sheet)
        found.clear()
        self.assertEqual(list(sheet.items()), list(before.items()))
        self.assert_dict_is_new(call, sheet, *given)

    def test_with_a_track_that_is_there_already_the_told_one_is_new(self):
        found = with_track(SEVERAL, "a", PAUSING)
        self.assertEqual(found, SEVERAL)
        self.assertIsNot(found, SEVERAL)


class StaggeredTest(ExactCase):
    def test_no_name(self):
        for plan in PLANS:
            self.assertEqual(staggered([], plan, (1, 1), (0, 1), (1, 1)), {})

    def test_one_name(self):
        for plan in PLANS:
            for gap in [(0, 1), (5, 1), (-5, 1)]:
                self.assertEqual(staggered(["x"], plan, (1, 2), (3, 1), gap), {"x": played(plan, (1, 2), (3, 1))})

    def test_by_hand(self):
        found = staggered(["b", "a", "c"], GO, (1, 1), (-1, 1), (1, 2))
        self.assertEqual(found, {
            "b": a_track(1, a_motion(1, 3, -1, 2, "in")),
            "a": a_track(1, a_motion(1, 3, "-1/2", 2, "in")),
            "c": a_track(1, a_motion(1, 3, 0, 2, "in")),
        })
        found = staggered(["b", "a"], then(WAIT, GO), (1, 1), (0, 1), (-2, 1))
        self.assertEqual(found, {
            "b": a_track(1, a_motion(1, 3, "3/4", 2, "in")), "a": a_track(1, a_motion(1, 3, "-5/4", 2, "in")),
        })

    def test_each_track_is_played_at_its_own_time(self):
        names = ["d", "a", "", "Z"]
        for plan in PLANS:
            for gap in ["0", "1", "-1", "2/3", "-9/4"]:
                found = staggered(names, plan, (-1, 3), (5, 2), pair(gap))
                self.assertEqual(sorted(found), sorted(names))
                for place, name in enumerate(names):
                    begin = Fraction(5, 2) + place * Fraction(gap)
                    self.assertIs(is_track(found[name]), True)
                    self.assertEqual(found[name], played(plan, (-1, 3), pair(begin)))

    def test_a_gap_of_0(self):
        found = staggered(["x", "y"], again(2, BY), (0, 1), (1, 1), (0, 1))
        self.assertEqual(found["x"], found["y"])

    def test_plans_without_motions(self):
        for plan in [WAIT, NOTHING]:
            found = staggered(["x", "y"], plan, (3, 2), (1, 1), (1, 1))
            self.assertEqual(found, {"x": a_track("3/2"), "y": a_track("3/2")})

    def test_no_plan(self):
        for thing in NO_PLANS:
            for names in (["x"], ["x", "y"], []):
                with self.subTest(thing=thing, names=names):
                    self.assert_refused(NoPlan, staggered, names, thing, (1, 1), (0, 1), (1, 1))

    def test_the_names_handed_in_are_as_they_were_and_the_told_dict_new(self):
        for names in ([], ["x"], ["y", "x"]):
            self.assert_keeps_given(staggered, names, GO, (1, 1), (0, 1), (1, 1))
            self.assert_dict_is_new(staggered, names, GO, (1, 1), (0, 1), (1, 1))


class HandedInTest(ExactCase):
    def test_what_is_handed_in_is_as_it_was(self):
        for sheet in SHEETS:
            self.assert_keeps_given(last_end, sheet)
            for call in (shown, going, added):
                self.assert_keeps_given(call, sheet, (3, 1))


if __name__ == "__main__":
    unittest.main()
