import unittest
from fractions import Fraction
from itertools import permutations, product

from exact import ExactCase, pair, told
from glideways.marks import by_times, last_mark, next_mark, passed
from some_marks import ACROSS, BELOW, NONE, ONE, SAME, SOME_MARKS, a_mark


def times_about(marks):
    tiny = Fraction(1, 10 ** 40)
    times = {Fraction(0), Fraction(1, 2), Fraction(4)}
    for time, label in marks:
        times.update([told(time) - tiny, told(time), told(time) + tiny])
    return sorted(times)


def asked_order(marks):
    return sorted(marks, key=lambda mark: told(mark[0]))


def asked_passed(marks, start, goal):
    risen = [(told(time), label) for time, label in asked_order(marks)]
    if goal < start:
        return [label for time, label in reversed(risen) if goal <= time < start]
    return [label for time, label in risen if start < time <= goal]


class ByTimesTest(ExactCase):
    def test_by_hand(self):
        self.assertEqual(by_times(NONE), [])
        self.assertEqual(by_times(ONE), ONE)
        asked = [a_mark("1/3", "a"), a_mark("1/2", "b"), a_mark("2/3", "c"), a_mark(1, "d")]
        self.assertEqual(by_times(ACROSS), asked)

    def test_marks_of_one_time_stay_as_they_stand(self):
        asked = [a_mark(1, "one"), a_mark(3, "y"), a_mark(3, "x"), a_mark(3, "y"), a_mark(5, "five")]
        self.assertEqual(by_times(SAME), asked)
        asked = [a_mark("-5/2", ""), a_mark("-5/2", "a"), a_mark(-1, "z"), a_mark(0, "null"), a_mark("1/7", "z")]
        self.assertEqual(by_times(BELOW), asked)
        for turn in permutations(["b", "a", "c", "B"]):
            marks = [a_mark(7, label) for label in turn]
            self.assertEqual(by_times(marks), marks)

    def test_in_every_turn(self):
        for marks in SOME_MARKS:
            for turn in permutations(marks):
                self.assertEqual(by_times(list(turn)), asked_order(turn))

    def test_a_told_list_may_be_changed_and_the_handed_one_is_as_it_was(self):
        for marks in SOME_MARKS:
            self.assert_list_is_new(by_times, marks)
            self.assert_keeps_given(by_times, marks)
            risen = by_times(marks)
            self.assertIsNot(by_times(risen), risen)


class PassedTest(ExactCase):
    def assert_passed(self, marks, asked):
        for start, goal, labels in asked:
            with self.subTest(start=start, goal=goal):
                self.assertEqual(passed(marks, pair(start), pair(goal)), labels)

    def test_without_marks(self):
        self.assert_passed(NONE, [(0, 0, []), (0, 5, []), (5, 0, [])])

    def test_forth(self):
        self.assert_passed(ONE, [
            (0, 1, []), (0, 2, ["two"]), (1, 3, ["two"]), (2, 3, []), (3, 4, []), (2, 2, []), (0, "19/10", []),
        ])
        self.assert_passed(SAME, [
            (0, 9, ["one", "y", "x", "y", "five"]), (1, 3, ["y", "x", "y"]), (3, 5, ["five"]), (0, 1, ["one"]),
            (5, 9, []),
        ])
        self.assert_passed(ACROSS, [
            (0, 1, ["a", "b", "c", "d"]), ("1/3", "2/3", ["b", "c"]), ("1/2", "2/3", ["c"]), ("2/5", "3/5", ["b"]),
        ])

    def test_back(self):
        self.assert_passed(ONE, [
            (1, 0, []), (2, 0, []), (3, 1, ["two"]), (3, 2, ["two"]), (4, 3, []), (3, "21/10", []),
        ])
        self.assert_passed(SAME, [
            (9, 0, ["five", "y", "x", "y", "one"]), (3, 1, ["one"]), (5, 3, ["y", "x", "y"]), (1, 0, []),
        ])
        marks = [a_mark(3, "first"), a_mark(3, "second")]
        back = ["second", "first"]
        self.assert_passed(marks, [(4, 2, back), (2, 4, ["first", "second"]), (4, 3, back), (3, 2, [])])
        self.assert_passed(ACROSS, [
            (1, 0, ["c", "b", "a"]), ("2/3", "1/3", ["b", "a"]), ("2/3", "1/2", ["b"]), ("3/5", "2/5", ["b"]),
        ])

    def test_start_and_goal_the_same(self):
        for marks in SOME_MARKS:
            for time in times_about(marks):
                self.assertEqual(passed(marks, pair(time), pair(time)), [])

    def test_of_many(self):
        for marks in SOME_MARKS:
            for start, goal in product(times_about(marks), repeat=2):
                self.assertEqual(passed(marks, pair(start), pair(goal)), asked_passed(marks, start, goal))

    def test_by_way_of_a_time_between_it_is_what_is_passed_at_once(self):
        for marks in SOME_MARKS:
            for start, middle, goal in product(times_about(marks), repeat=3):
                if start <= middle <= goal or start >= middle >= goal:
                    first = passed(marks, pair(start), pair(middle))
                    second = passed(marks, pair(middle), pair(goal))
                    self.assertEqual(first + second, passed(marks, pair(start), pair(goal)))

    def test_forth_and_back_are_the_same_labels_turned(self):
        for marks in SOME_MARKS:
            at_none = set(times_about(marks)) - {told(time) for time, label in marks}
            for start, goal in product(at_none, repeat=2):
                forth = passed(marks, pair(start), pair(goal))
                self.assertEqual(passed(marks, pair(goal), pair(start)), forth[::-1])

    def test_a_told_list_may_be_changed_and_the_handed_one_is_as_it_was(self):
        for marks in SOME_MARKS:
            for start, goal in [((0, 1), (9, 1)), ((9, 1), (0, 1)), ((0, 1), (0, 1))]:
                self.assert_list_is_new(passed, marks, start, goal)
                self.assert_keeps_given(passed, marks, start, goal)


class NextAndLastTest(ExactCase):
    def assert_about(self, marks, asked):
        for time, last, coming in asked:
            with self.subTest(time=time):
                self.assertEqual(last_mark(marks, pair(time)), last)
                self.assertEqual(next_mark(marks, pair(time)), coming)

    def test_without_marks(self):
        self.assert_about(NONE, [(-1, None, None), (0, None, None), (1, None, None)])

    def test_one(self):
        two = a_mark(2, "two")
        self.assert_about(ONE, [(0, None, two), ("19/10", None, two), (2, two, None), ("21/10", two, None)])

    def test_across(self):
        third, half, thirds, one = a_mark("1/3", "a"), a_mark("1/2", "b"), a_mark("2/3", "c"), a_mark(1, "d")
        self.assert_about(ACROSS, [
            (0, None, third), ("1/3", third, half), ("2/5", third, half), ("1/2", half, thirds), ("2/3", thirds, one),
            (1, one, None), (2, one, None),
        ])

    def test_two_marks_of_one_time(self):
        first, second = a_mark(3, "y"), a_mark(3, "x")
        self.assert_about([first, second], [(2, None, first), (3, second, None), (4, second, None)])
        self.assert_about([second, first], [(2, None, second), (3, first, None), (4, first, None)])
        early, late = a_mark(1, "one"), a_mark(5, "five")
        self.assert_about([late, first, early, second], [
            (0, None, early), (1, early, first), (2, early, first), (3, second, late), (4, second, late),
            (5, late, None),
        ])

    def test_of_many(self):
        for marks in SOME_MARKS:
            risen = asked_order(marks)
            for time in times_about(marks):
                till = [mark for mark in risen if told(mark[0]) <= time]
                behind = [mark for mark in risen if told(mark[0]) > time]
                self.assert_about(marks, [(time, till[-1] if till else None, behind[0] if behind else None)])

    def test_the_handed_list_is_as_it_was(self):
        for marks in SOME_MARKS:
            self.assert_keeps_given(next_mark, marks, (1, 2))
            self.assert_keeps_given(last_mark, marks, (1, 2))


if __name__ == "__main__":
    unittest.main()
