import unittest
from math import gcd

from exact import ExactCase, pair
from glideways.errors import NoText
from glideways.plans import is_plan
from glideways.texts import frac_text, read, read_frac, written
from measures import KINDS
from some_plans import PLANS, again, by, deep_by_again, deep_by_then, go, wait
from some_texts import NO_FRAC_TEXTS, NO_PLAN_TEXTS, OTHER_SIGNS, WRITTEN_FRACS, WRITTEN_PLANS, asked_frac, asked_plan
from things import HUGE, SIGNS, spoilt_signs, spoilt_words


class FracTextTest(ExactCase):
    def test_by_hand(self):
        for one, text in WRITTEN_FRACS + [((HUGE, 1), str(HUGE)), ((-HUGE, 2), f"-{HUGE}/2")]:
            self.assertEqual(frac_text(one), text)

    def test_many_read_back(self):
        for up in range(-30, 31):
            for down in range(1, 14):
                one = pair(f"{up}/{down}")
                self.assertEqual(read_frac(frac_text(one)), one)


class ReadFracTest(ExactCase):
    def test_what_is_written(self):
        for one, text in WRITTEN_FRACS:
            self.assertEqual(read_frac(text), one)

    def test_other_texts(self):
        for text in NO_FRAC_TEXTS + OTHER_SIGNS:
            with self.subTest(text=text[:60]):
                self.assert_refused(NoText, read_frac, text)

    def test_figures_from_1_to_12(self):
        for figures in range(1, 13):
            number = int("7" * figures)
            for one in [(number, 1), (-number, 1), (1, number), (-1, number), (number, number - 1)]:
                with self.subTest(figures=figures, one=one):
                    if figures <= 9:
                        self.assertEqual(read_frac(frac_text(one)), one)
                    else:
                        self.assert_refused(NoText, read_frac, frac_text(one))

    def test_up_and_down_of_all_small_numbers(self):
        for up in range(-12, 13):
            for down in range(-12, 13):
                text = f"{up}/{down}"
                if down > 1 and gcd(up, down) == 1:
                    self.assertEqual(read_frac(text), (up, down))
                else:
                    self.assert_refused(NoText, read_frac, text)

    def test_a_sign_put_in_taken_out_or_exchanged(self):
        for one, text in WRITTEN_FRACS:
            for spoilt in spoilt_signs(text, SIGNS):
                self.assert_reads(spoilt)
        for first in SIGNS:
            for second in SIGNS:
                self.assert_reads(first + second)

    def assert_reads(self, text):
        asked = asked_frac(text)
        if asked is None:
            self.assert_refused(NoText, read_frac, text)
        else:
            self.assertEqual(read_frac(text), asked)
            self.assertEqual(frac_text(asked), text)


class WrittenTest(ExactCase):
    def test_by_hand(self):
        for plan, text in WRITTEN_PLANS:
            self.assertEqual(written(plan), text)

    def test_every_kind(self):
        for kind in KINDS:
            self.assertEqual(written(go(1, 2, kind)), f"go 1 2 {kind}")
            self.assertEqual(written(by("1/2", 2, kind)), f"by 1/2 2 {kind}")

    def test_numbers_of_many_figures_are_written_though_not_read(self):
        self.assertEqual(written(wait(HUGE)), f"wait {HUGE}")
        self.assert_refused(NoText, read, written(wait(HUGE)))
        self.assert_refused(NoText, read, written(go(10 ** 9, 1, "in")))
        self.assert_refused(NoText, read, written(again(2, by(1, f"1/{10 ** 9}", "in"))))

    def test_beyond_its_bounds_nothing_is_refused(self):
        self.assertEqual(written(deep_by_again(6)), "again 1 " * 5 + "by 1 1 out")
        self.assertEqual(written(again(5, wait(1))), "again 5 wait 1")

    def test_unlike_plans_are_written_unlike(self):
        self.assertEqual(len({written(plan) for plan in PLANS}), len(set(PLANS)))


class ReadTest(ExactCase):
    def test_what_is_written(self):
        for plan, text in WRITTEN_PLANS:
            self.assertEqual(read(text), plan)
        for plan in PLANS:
            self.assertEqual(read(written(plan)), plan)

    def test_9_figures(self):
        for number in [999999999, -999999999, 100000000]:
            for plan in [go(number, 1, "in"), by(number, abs(number), "out"), wait(f"1/{abs(number)}")]:
                self.assertEqual(read(written(plan)), plan)

    def test_5_deep_and_6_deep(self):
        for deep in range(1, 12):
            for plan in [deep_by_then(deep, True), deep_by_then(deep, False), deep_by_again(deep)]:
                if deep <= 5:
                    self.assertEqual(read(written(plan)), plan)
                else:
                    self.assert_refused(NoText, read, written(plan))

    def test_many_from_0_to_4(self):
        for many in range(-12, 13):
            text = f"again {many} wait 1"
            if 0 <= many <= 4:
                self.assertEqual(read(text), again(many, wait(1)))
            else:
                self.assert_refused(NoText, read, text)

    def test_other_texts(self):
        for text in NO_PLAN_TEXTS:
            with self.subTest(text=text[:60]):
                self.assert_refused(NoText, read, text)

    def test_numbers_that_are_not_written_so(self):
        for number in NO_FRAC_TEXTS + OTHER_SIGNS:
            for text in [f"wait {number}", f"go {number} 1 in", f"by 1 {number} in", f"then wait {number} wait 1"]:
                with self.subTest(text=text[:60]):
                    self.assert_refused(NoText, read, text)

    def test_words_left_out_told_twice_or_exchanged(self):
        for plan in PLANS:
            for spoilt in spoilt_words(written(plan)):
                self.assert_reads(spoilt)

    def test_a_sign_put_in_taken_out_or_exchanged(self):
        for plan, text in WRITTEN_PLANS[:-3]:
            for spoilt in spoilt_signs(text, SIGNS):
                self.assert_reads(spoilt)

    def test_texts_begun_and_not_ended(self):
        for plan, text in WRITTEN_PLANS:
            for place in range(len(text)):
                self.assert_reads(text[:place])
                self.assert_reads(text[place + 1:])

    def assert_reads(self, text):
        asked = asked_plan(text)
        if asked is None:
            self.assert_refused(NoText, read, text)
        else:
            self.assertEqual(read(text), asked)
            self.assertIs(is_plan(asked), True)
            self.assertEqual(written(asked), text)


class HandedInTest(ExactCase):
    def test_what_is_handed_in_is_as_it_was(self):
        for plan in PLANS:
            self.assert_keeps_given(written, plan)
            self.assert_keeps_given(read, written(plan))


if __name__ == "__main__":
    unittest.main()
