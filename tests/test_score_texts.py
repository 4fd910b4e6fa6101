import re
import unittest

from exact import ExactCase
from glideways.errors import NoBack, NoText
from glideways.scores import Score, read_score, score_text
from glideways.texts import read, written
from some_plans import BY, GO, NOTHING, PLANS, WAIT, again, deep_by_again, deep_by_then, go, then, wait
from some_scores import a_score, plans_of, state_of
from some_texts import NO_FRAC_TEXTS, NO_PLAN_TEXTS, OTHER_SIGNS, asked_plan
from things import HUGE, OTHER_THINGS, SIGNS, nested, spoilt_signs, spoilt_words

SCORES = [
    ({}, ""),
    ({"a": GO}, "a: go 3 2 in\n"),
    ({"b": BY, "a": WAIT}, "a: wait 3/4\nb: by 1/2 1/3 out\n"),
    ({"zzzzzz": NOTHING, "then": then(GO, BY), "ab": wait(1), "abc": wait(1), "b": again(4, WAIT)},
     "ab: wait 1\nabc: wait 1\nb: again 4 wait 3/4\nthen: then go 3 2 in by 1/2 1/3 out\nzzzzzz: again 0 go 3 2 in\n"),
]
NO_SCORE_TEXTS = [
    "\n", "\n\n", " ", ":", ": \n", "a", "a\n", "a:", "a:\n", "a: \n", "a: wait 1", "a:wait 1\n", "a wait 1\n",
    "wait 1\n",
    "a: wait 1\n\n", "\na: wait 1\n", "a: wait 1\n ", " a: wait 1\n", "a : wait 1\n", "a:  wait 1\n", "a: wait 1 \n",
    "a; wait 1\n", "a:: wait 1\n", "a: a: wait 1\n", "a: : wait 1\n", "a: wait 1\r\n", "a: wait 1\r", "a: wait 1\x0b",
    "a: wait 1\u2028", "a: wait 1\n\nb: wait 1\n", "a: wait 1\nb: wait 1", "a: wait 1b: wait 1\n",
    "a: wait 1 b: wait 1\n",
    "b: wait 1\na: wait 1\n", "b: wait 1\naa: wait 1\n", "ab: wait 1\na: wait 1\n", "a: wait 1\na: wait 1\n",
    "a: wait 1\na: wait 2\n", "a: wait 1\nb: wait 1\na: wait 1\n", "a: wait 1\nb: wait 1\nb: wait 1\n",
    "a: wait 1\nc: wait 1\nb: wait 1\n", "abcdefg: wait 1\n", "abcdefghij: wait 1\n", "A: wait 1\n", "aB: wait 1\n",
    "a1: wait 1\n", "1: wait 1\n", "a b: wait 1\n", "a-b: wait 1\n", "a_b: wait 1\n", ": wait 1\n", "\u00e4: wait 1\n",
    "\u03b1: wait 1\n", "a: wait\n1\n", "a:\nwait 1\n", "a: wait 1\\n", "a: wait 1\tb: wait 1\n", "None", "{}", "[]",
    "a: wait 1\n" * 500, "a: wait 1" * 500, "\n" * 5000, "a: " * 500,
]
NAME_FORM = re.compile("[a-z]{1,6}")


def asked_score(text):
    """The plans by names of which the text is the writing, line by line, or None."""
    if text != "" and not text.endswith("\n"):
        return None
    plans = {}
    for line in text.split("\n")[:-1]:
        name, colon, plan = line.partition(": ")
        if not NAME_FORM.fullmatch(name) or asked_plan(plan) is None or any(name <= other for other in plans):
            return None
        plans[name] = asked_plan(plan)
    return plans


class ScoreTextTest(ExactCase):
    def test_by_hand(self):
        for plans, text in SCORES:
            self.assertEqual(score_text(a_score(**plans)), text)

    def test_each_plan_as_it_is_written(self):
        for plan in PLANS:
            self.assertEqual(score_text(a_score(name=plan)), f"name: {written(plan)}\n")

    def test_whatever_was_done_only_what_is_there_counts(self):
        score = a_score(b=GO, a=WAIT, c=BY)
        score.take("c")
        score.put("b", BY)
        score.put("d", GO)
        score.back()
        self.assertEqual(score_text(score), "a: wait 3/4\nb: by 1/2 1/3 out\n")

    def test_it_changes_nothing(self):
        score = a_score(b=GO, a=WAIT)
        score.back()
        before = state_of(score)
        score_text(score)
        self.assertEqual(state_of(score), before)

    def test_numbers_of_many_figures_are_written_though_not_read(self):
        for plan in [wait(HUGE), go(10 ** 9, 1, "in"), again(2, wait(f"1/{10 ** 9}"))]:
            text = score_text(a_score(a=plan))
            self.assertEqual(text, f"a: {written(plan)}\n")
            self.assert_refused(NoText, read_score, text)


class ReadScoreTest(ExactCase):
    def assert_read(self, text, plans):
        score = read_score(text)
        self.assertIs(type(score), Score)
        self.assertEqual(plans_of(score), plans)
        self.assertEqual(score.counts(), (0, 0))
        self.assert_refused(NoBack, score.back)
        self.assert_refused(NoBack, score.forth)
        self.assertEqual(score_text(score), text)

    def test_what_is_written(self):
        for plans, text in SCORES:
            self.assert_read(text, plans)
        for plan in PLANS:
            self.assert_read(f"x: {written(plan)}\n", {"x": plan})

    def test_many_names(self):
        names = [first + second for first in "abxyz" for second in ["", "a", "bcdef", "z"]]
        plans = dict(zip(names, PLANS * 2))
        self.assert_read(score_text(a_score(**plans)), plans)

    def test_a_new_one_by_itself(self):
        first = a_score(a=GO, b=BY)
        text = score_text(first)
        one, other = read_score(text), read_score(text)
        self.assertIs(one.put("a", WAIT), True)
        one.take("b")
        self.assertEqual(plans_of(other), {"a": GO, "b": BY})
        self.assertEqual(plans_of(first), {"a": GO, "b": BY})
        self.assertEqual(other.counts(), (0, 0))
        self.assertEqual(first.counts(), (2, 0))
        self.assertEqual([one.back(), one.back()], ["take", "put"])
        self.assertEqual(plans_of(one), {"a": GO, "b": BY})
        self.assertEqual(one.counts(), (0, 2))

    def test_what_was_read_goes_on_as_any_score(self):
        score = read_score("a: wait 1\nb: wait 2\n")
        self.assertEqual(score.chain("a", "b"), then(wait(1), wait(2)))
        self.assertEqual(score.twin().counts(), (1, 0))
        self.assertEqual(score_text(score), "a: then wait 1 wait 2\nb: wait 2\n")

    def test_other_texts(self):
        for text in NO_SCORE_TEXTS:
            with self.subTest(text=text[:60]):
                self.assert_refused(NoText, read_score, text)

    def test_lines_whose_plan_is_none(self):
        for plan in NO_PLAN_TEXTS:
            for text in [f"a: {plan}\n", f"a: wait 1\nb: {plan}\n", f"a: {plan}\nb: wait 1\n"]:
                with self.subTest(text=text[:60]):
                    self.assert_refused(NoText, read_score, text)

    def test_numbers_that_are_not_written_so(self):
        for number in NO_FRAC_TEXTS + OTHER_SIGNS:
            with self.subTest(number=number[:60]):
                self.assert_refused(NoText, read_score, f"a: wait {number}\n")
                self.assert_refused(NoText, read_score, f"a: go {number} 1 in\n")

    def test_9_and_10_figures(self):
        self.assert_read("a: go -999999999 1/999999999 in\n", {"a": go(-999999999, "1/999999999", "in")})
        for text in ["a: go -1000000000 1 in\n", "a: wait 1/1000000000\n", "a: again 1000000000 wait 1\n"]:
            self.assert_refused(NoText, read_score, text)

    def test_5_deep_and_6_deep(self):
        for plan in [deep_by_again(5), deep_by_then(5, True), deep_by_then(5, False)]:
            self.assert_read(f"a: {written(plan)}\n", {"a": plan})
        for plan in [deep_by_again(6), deep_by_then(6, True), deep_by_then(6, False)]:
            self.assert_refused(NoText, read_score, f"a: {written(plan)}\n")

    def test_things_that_are_no_text(self):
        things = [thing for thing in OTHER_THINGS if not isinstance(thing, str)]
        for thing in things + [["a: wait 1\n"], ("a: wait 1\n",), [""], ("",), nested("a: wait 1\n", 10), GO, [[]]]:
            with self.subTest(thing=thing):
                self.assert_refused(NoText, read_score, thing)

    def test_texts_that_stand_among_other_things(self):
        for thing in OTHER_THINGS:
            if isinstance(thing, str) and thing != "":
                self.assert_refused(NoText, read_score, thing)

    def test_a_sign_put_in_taken_out_or_exchanged(self):
        for plans, text in SCORES[:3]:
            for spoilt in spoilt_signs(text, SIGNS + ["\n", "\r", "\t", "\u00e4", "\u0661", "\u2028"]):
                self.assert_reads(spoilt)

    def test_words_left_out_told_twice_or_exchanged(self):
        for plans, text in SCORES:
            for spoilt in spoilt_words(text):
                self.assert_reads(spoilt)

    def test_lines_left_out_told_twice_or_exchanged(self):
        lines = SCORES[3][1].split("\n")
        for place in range(len(lines)):
            for instead in [[], [lines[place]] * 2] + [[line] for line in lines]:
                self.assert_reads("\n".join(lines[:place] + instead + lines[place + 1:]))

    def test_texts_begun_and_not_ended(self):
        for plans, text in SCORES:
            for place in range(len(text)):
                self.assert_reads(text[:place])
                self.assert_reads(text[place:])

    def assert_reads(self, text):
        asked = asked_score(text)
        if asked is None:
            self.assert_refused(NoText, read_score, text)
        else:
            self.assert_read(text, asked)
            lines = [line.partition(": ") for line in text.split("\n")[:-1]]
            self.assertEqual({name: read(plan) for name, colon, plan in lines}, asked)


if __name__ == "__main__":
    unittest.main()
