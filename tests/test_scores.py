import unittest
from itertools import product

from exact import ExactCase
from glideways.errors import GlideError, NoBack, NoName, NoPlan
from glideways.plans import is_plan, slower
from glideways.scores import Score
from some_plans import (
    BY, FORKED, GO, NO_PLANS, NOTHING, PLANS, WAIT, again, deep_by_again, deep_by_then, go, then, wait,
)
from some_scores import a_score, plans_of, state_of
from things import HUGE, OTHER_THINGS, nested, spoilt_size

NAMES = ["a", "z", "ab", "abc", "abcdef", "zzzzzz", "go", "then"]
NO_NAMES = [thing for thing in OTHER_THINGS if not isinstance(thing, str)] + [
    "", " ", "abcdefg", "abcdefghijkl", "A", "aB", "Abc", "a b", " a", "a ", "a\n", "\n", "a1", "1", "a-b", "a_b",
    "a:", ":", "\u00e4", "stra\u00dfe", "\u03b1", "a" * 10000, ["a"], ("a",), [["a"]], ("a", "b"), nested("a", 10), GO,
]
# By their writing, as True is like 1 to Python.
NO_MANY = [thing for thing in OTHER_THINGS if repr(thing) not in ("0", "1")] + [
    5, 6, -1, -4, HUGE, -HUGE, True, False, None, "", "2", (2, 1), (2,), [2], [], GO, nested(2, 10),
]
NO_SIZES = [thing for thing in OTHER_THINGS if repr(thing) != "(1, 2)"] + list(spoilt_size((3, 2))) + [
    2, "2", "1/2", (1,), [2, 1], (True, 1), (2, True), (2, 4), (0, 2), (1, 0), GO, nested((2, 1), 10),
]


class ScoreCase(ExactCase):
    def assert_score(self, score, plans, counts):
        self.assertEqual(plans_of(score), plans)
        self.assertEqual(score.names(), sorted(plans))
        self.assertEqual(score.counts(), counts)

    def assert_changes_nothing(self, score, error, *refused):
        before = state_of(score)
        self.assert_refused(error, *refused)
        self.assertEqual(state_of(score), before)


class PutAndTakeTest(ScoreCase):
    def test_at_first(self):
        score = Score()
        self.assert_score(score, {}, (0, 0))
        self.assert_refused(NoName, score.plan_of, "a")

    def test_a_new_name_and_in_the_stead_of_one(self):
        score = Score()
        self.assertIs(score.put("b", GO), False)
        self.assert_score(score, {"b": GO}, (1, 0))
        self.assertIs(score.put("a", BY), False)
        self.assertIs(score.put("b", WAIT), True)
        self.assert_score(score, {"a": BY, "b": WAIT}, (3, 0))
        self.assertIs(score.put("b", WAIT), True)
        self.assert_score(score, {"a": BY, "b": WAIT}, (4, 0))

    def test_every_plan_and_every_name(self):
        score = Score()
        for plan in PLANS:
            for name in NAMES:
                score.put(name, plan)
                self.assertEqual(score.plan_of(name), plan)
        self.assertEqual(score.names(), sorted(NAMES))

    def test_take(self):
        score = a_score(a=GO, b=BY)
        self.assertEqual(score.take("a"), GO)
        self.assert_score(score, {"b": BY}, (3, 0))
        self.assert_changes_nothing(score, NoName, score.take, "a")
        self.assert_changes_nothing(score, NoName, score.plan_of, "a")
        self.assertIs(score.put("a", WAIT), False)
        self.assertEqual(score.take("a"), WAIT)
        self.assertEqual(score.take("b"), BY)
        self.assert_score(score, {}, (6, 0))

    def test_put_no_plan(self):
        score = a_score(a=GO)
        score.put("b", BY)
        score.back()
        for thing in NO_PLANS:
            with self.subTest(thing=thing):
                self.assert_changes_nothing(score, NoPlan, score.put, "a", thing)
                self.assert_changes_nothing(score, NoPlan, score.put, "c", thing)

    def test_put_no_name(self):
        score = a_score(a=GO)
        score.put("b", BY)
        score.back()
        for thing in NO_NAMES:
            with self.subTest(thing=thing):
                self.assert_changes_nothing(score, NoName, score.put, thing, GO)

    def test_put_no_plan_comes_ahead_of_no_name(self):
        score = Score()
        no_plans = [None, "", list(GO), deep_by_again(6), again(5, GO)]
        for name, plan in product(["", "A", None, ["a"], nested("a", 10)], no_plans):
            self.assert_refused(NoPlan, score.put, name, plan)
        self.assert_score(score, {}, (0, 0))

    def test_no_name_of_plan_of_and_take(self):
        score = a_score(a=GO)
        score.put("b", BY)
        score.back()
        for thing in NO_NAMES + ["b", "c", "aa", "abcdef"]:
            with self.subTest(thing=thing):
                self.assert_changes_nothing(score, NoName, score.plan_of, thing)
                self.assert_changes_nothing(score, NoName, score.take, thing)


class ChangesTest(ScoreCase):
    def test_chain(self):
        score = a_score(a=GO, b=BY)
        self.assertEqual(score.chain("a", "b"), then(GO, BY))
        self.assert_score(score, {"a": then(GO, BY), "b": BY}, (3, 0))
        self.assertEqual(score.chain("b", "a"), then(BY, then(GO, BY)))
        self.assert_score(score, {"a": then(GO, BY), "b": then(BY, then(GO, BY))}, (4, 0))

    def test_chain_of_a_name_with_itself(self):
        score = a_score(a=GO)
        self.assertEqual(score.chain("a", "a"), then(GO, GO))
        self.assertEqual(score.chain("a", "a"), then(then(GO, GO), then(GO, GO)))
        self.assertEqual(score.plan_of("a"), then(then(GO, GO), then(GO, GO)))

    def test_repeat(self):
        for many in range(5):
            score = a_score(a=GO, b=BY)
            self.assertEqual(score.repeat("a", many), again(many, GO))
            self.assert_score(score, {"a": again(many, GO), "b": BY}, (3, 0))

    def test_slow(self):
        score = a_score(a=then(GO, again(2, WAIT)), b=BY)
        asked = then(go(3, 3, "in"), again(2, wait("9/8")))
        self.assertEqual(score.slow("a", (3, 2)), asked)
        self.assert_score(score, {"a": asked, "b": BY}, (3, 0))
        for plan in PLANS:
            for by in [(1, 1), (1, 3), (HUGE, 7)]:
                score = a_score(a=plan)
                self.assertEqual(score.slow("a", by), slower(plan, by))
                self.assertEqual(score.plan_of("a"), slower(plan, by))

    def test_no_name(self):
        score = a_score(a=GO, b=BY)
        score.take("b")
        for thing in NO_NAMES + ["b", "c"]:
            with self.subTest(thing=thing):
                self.assert_changes_nothing(score, NoName, score.chain, thing, "a")
                self.assert_changes_nothing(score, NoName, score.chain, "a", thing)
                self.assert_changes_nothing(score, NoName, score.chain, thing, thing)
                self.assert_changes_nothing(score, NoName, score.repeat, thing, 2)
                self.assert_changes_nothing(score, NoName, score.slow, thing, (2, 1))

    def test_too_deep(self):
        for deep in [deep_by_again(5), deep_by_then(5, True), deep_by_then(5, False)]:
            score = a_score(deep=deep, a=GO)
            score.take("a")
            score.back()
            self.assert_changes_nothing(score, NoPlan, score.chain, "deep", "a")
            self.assert_changes_nothing(score, NoPlan, score.chain, "a", "deep")
            self.assert_changes_nothing(score, NoPlan, score.chain, "deep", "deep")
            for many in (0, 1, 4):
                self.assert_changes_nothing(score, NoPlan, score.repeat, "deep", many)
            self.assertEqual(score.slow("deep", (2, 1)), slower(deep, (2, 1)))

    def test_up_to_5_deep(self):
        score = a_score(a=GO)
        for deep in (2, 3, 4, 5):
            self.assertIs(is_plan(score.chain("a", "a")), True)
        self.assert_changes_nothing(score, NoPlan, score.chain, "a", "a")
        score = a_score(a=GO)
        for deep in (2, 3, 4, 5):
            self.assertIs(is_plan(score.repeat("a", 1)), True)
        self.assert_changes_nothing(score, NoPlan, score.repeat, "a", 1)

    def test_many_that_is_none(self):
        score = a_score(a=GO, b=BY)
        score.back()
        for thing in NO_MANY:
            with self.subTest(thing=thing):
                self.assert_changes_nothing(score, NoPlan, score.repeat, "a", thing)

    def test_sizes_that_are_none(self):
        score = a_score(a=GO, b=BY)
        score.back()
        for thing in NO_SIZES:
            with self.subTest(thing=thing):
                self.assert_changes_nothing(score, NoPlan, score.slow, "a", thing)

    def test_no_name_comes_ahead_of_no_plan(self):
        score = a_score(deep=deep_by_again(5))
        for name in ["b", "", "A", None, ["deep"], ("deep",), nested("deep", 10)]:
            self.assert_changes_nothing(score, NoName, score.chain, "deep", name)
            self.assert_changes_nothing(score, NoName, score.chain, name, "deep")
            for many in (5, -1, True, None, [1]):
                self.assert_changes_nothing(score, NoName, score.repeat, name, many)
            for by in ((0, 1), (-1, 1), None, 2, [2, 1]):
                self.assert_changes_nothing(score, NoName, score.slow, name, by)


class BackAndForthTest(ScoreCase):
    def test_at_both_ends(self):
        score = Score()
        self.assert_changes_nothing(score, NoBack, score.back)
        self.assert_changes_nothing(score, NoBack, score.forth)
        score.put("a", GO)
        self.assert_changes_nothing(score, NoBack, score.forth)
        self.assertEqual(score.back(), "put")
        self.assert_score(score, {}, (0, 1))
        self.assert_changes_nothing(score, NoBack, score.back)
        self.assertEqual(score.forth(), "put")
        self.assert_score(score, {"a": GO}, (1, 0))
        self.assert_changes_nothing(score, NoBack, score.forth)

    def test_through_all_of_it(self):
        score = Score()
        deeds = [
            ("put", "a", GO), ("put", "b", BY), ("put", "a", WAIT), ("chain", "a", "b"), ("repeat", "b", 0),
            ("slow", "a", (2, 1)), ("take", "b"), ("put", "b", GO), ("take", "a"), ("chain", "b", "b"),
        ]
        states = [plans_of(score)]
        for word, *given in deeds:
            getattr(score, word)(*given)
            states.append(plans_of(score))
        words, many = [deed[0] for deed in deeds], len(deeds)
        for turn in range(2):
            for place in reversed(range(many)):
                self.assertEqual(score.back(), words[place])
                self.assert_score(score, states[place], (place, many - place))
            self.assert_refused(NoBack, score.back)
            for place in range(many):
                self.assertEqual(score.forth(), words[place])
                self.assert_score(score, states[place + 1], (place + 1, many - place - 1))
            self.assert_refused(NoBack, score.forth)

    def test_deeds_that_changed_nothing(self):
        score = a_score(a=NOTHING)
        score.put("a", NOTHING)
        score.slow("a", (1, 1))
        self.assert_score(score, {"a": NOTHING}, (3, 0))
        self.assertEqual(score.back(), "slow")
        self.assertEqual(score.back(), "put")
        self.assert_score(score, {"a": NOTHING}, (1, 2))
        self.assertEqual(score.forth(), "put")
        self.assertEqual(score.forth(), "slow")
        self.assert_score(score, {"a": NOTHING}, (3, 0))

    def test_forth_behind_another_deed(self):
        for deed in [
            lambda one: one.put("a", GO), lambda one: one.put("c", BY), lambda one: one.take("a"),
            lambda one: one.chain("a", "a"), lambda one: one.repeat("a", 2), lambda one: one.slow("a", (1, 1)),
        ]:
            score = a_score(a=GO, b=BY)
            score.take("b")
            score.back()
            score.back()
            self.assertEqual(score.counts(), (1, 2))
            deed(score)
            self.assertEqual(score.counts(), (2, 0))
            self.assert_changes_nothing(score, NoBack, score.forth)

    def test_asking_and_refusals_keep_what_can_be_done_again(self):
        score = a_score(a=GO, b=BY)
        score.back()
        score.plan_of("a")
        score.names()
        score.counts()
        score.twin()
        self.assert_refused(NoName, score.plan_of, "b")
        self.assert_refused(NoName, score.take, "b")
        self.assert_refused(NoPlan, score.repeat, "a", 5)
        self.assertEqual(score.counts(), (1, 1))
        self.assertEqual(score.forth(), "put")
        self.assert_score(score, {"a": GO, "b": BY}, (2, 0))

    def test_every_way_through_some_deeds(self):
        """Held against the list of all states from the beginning on, and the place in it."""
        deeds = [
            ("put", "a", GO), ("put", "b", BY), ("take", "a"), ("chain", "a", "b"), ("chain", "a", "a"),
            ("repeat", "b", 2), ("slow", "a", (2, 1)), ("back",), ("forth",),
        ]
        for way in product(deeds, repeat=4):
            score, states, words, place = Score(), [{}], [], 0
            for word, *given in [("put", "a", WAIT)] + list(way):
                asked = self.asked_of(word, given, states, words, place)
                found = self.found_of(score, word, given)
                self.assertEqual(found, asked)
                if word == "back" and asked != NoBack:
                    place -= 1
                elif word == "forth" and asked != NoBack:
                    place += 1
                elif word not in ("back", "forth") and asked not in (NoName, NoPlan):
                    states[place + 1:] = [self.behind(word, given, states[place])]
                    words[place:] = [word]
                    place += 1
                self.assert_score(score, states[place], (place, len(words) - place))

    def found_of(self, score, word, given):
        try:
            return getattr(score, word)(*given)
        except GlideError as error:
            return type(error)

    def asked_of(self, word, given, states, words, place):
        if word == "back":
            return words[place - 1] if place else NoBack
        if word == "forth":
            return words[place] if place < len(words) else NoBack
        if word == "put":
            return given[0] in states[place]
        if given[0] not in states[place] or (word == "chain" and given[1] not in states[place]):
            return NoName
        if word == "take":
            return states[place][given[0]]
        plan = self.behind(word, given, states[place])[given[0]]
        return plan if is_plan(plan) else NoPlan

    def behind(self, word, given, plans):
        name, plans = given[0], dict(plans)
        if word == "put":
            plans[name] = given[1]
        elif word == "take":
            plans.pop(name)
        elif word == "chain":
            plans[name] = then(plans[name], plans[given[1]])
        elif word == "repeat":
            plans[name] = again(given[1], plans[name])
        else:
            plans[name] = slower(plans[name], given[1])
        return plans


class TwinTest(ScoreCase):
    def test_as_the_first_one(self):
        score = Score()
        self.assertEqual(state_of(score.twin()), state_of(score))
        score = a_score(a=GO, b=BY)
        score.take("b")
        score.chain("a", "a")
        score.back()
        score.back()
        twin = score.twin()
        self.assertIsInstance(twin, Score)
        self.assertIsNot(twin, score)
        self.assert_score(twin, {"a": GO, "b": BY}, (2, 2))
        self.assertEqual([twin.forth(), twin.forth()], ["take", "chain"])
        self.assert_score(twin, {"a": then(GO, GO)}, (4, 0))
        self.assertEqual([twin.back() for step in range(4)], ["chain", "take", "put", "put"])
        self.assert_score(twin, {}, (0, 4))
        self.assert_score(score, {"a": GO, "b": BY}, (2, 2))

    def test_by_itself_from_then_on(self):
        for deed in [
            lambda one: one.put("a", WAIT), lambda one: one.put("c", WAIT), lambda one: one.take("a"),
            lambda one: one.chain("a", "b"), lambda one: one.repeat("a", 3), lambda one: one.slow("a", (2, 1)),
            lambda one: one.back(), lambda one: one.forth(),
        ]:
            score = a_score(a=GO, b=BY, c=FORKED)
            score.back()
            twin = score.twin()
            before = state_of(score)
            deed(twin)
            self.assertEqual(state_of(score), before)
            self.assertNotEqual(state_of(twin), before)
            twin = score.twin()
            deed(score)
            self.assertEqual(state_of(twin), before)

    def test_twin_of_a_twin(self):
        score = a_score(a=GO)
        twin = score.twin()
        other = twin.twin()
        twin.put("b", BY)
        self.assert_score(other, {"a": GO}, (1, 0))
        self.assertEqual(other.back(), "put")
        self.assert_score(twin, {"a": GO, "b": BY}, (2, 0))
        self.assert_score(score, {"a": GO}, (1, 0))


class ByItselfTest(ScoreCase):
    def test_two_scores_do_not_change_each_other(self):
        one, other = Score(), Score()
        one.put("a", GO)
        self.assert_score(other, {}, (0, 0))
        other.put("a", BY)
        one.take("a")
        one.back()
        one.back()
        self.assert_score(other, {"a": BY}, (1, 0))

    def test_told_names_may_be_changed(self):
        for score in [Score(), a_score(b=GO, a=BY)]:
            self.assert_list_is_new(score.names)
            told = score.names()
            score.put("c", GO)
            self.assertNotIn("c", told)

    def test_names_rise(self):
        score = Score()
        for name in ["b", "aa", "a", "z", "ab", "abcdef"]:
            score.put(name, GO)
        self.assertEqual(score.names(), ["a", "aa", "ab", "abcdef", "b", "z"])
        score.put("b", GO)
        score.take("aa")
        score.back()
        self.assertEqual(score.names(), ["a", "aa", "ab", "abcdef", "b", "z"])

    def test_what_is_handed_in_is_as_it_was(self):
        for plan in PLANS:
            before = repr(plan)
            score = a_score(a=plan, b=GO)
            score.slow("a", (2, 1))
            self.assertEqual(repr(plan), before)


if __name__ == "__main__":
    unittest.main()
