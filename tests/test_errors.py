import unittest

from glideways import errors

NAMES = ["NoFrac", "NoKind", "NoPlan", "NoTrack", "NoTime", "NoName", "NoText", "NoBack"]


class ErrorsTest(unittest.TestCase):
    def test_glide_error_is_a_value_error(self):
        self.assertEqual(errors.GlideError.__bases__, (ValueError,))

    def test_each_refusal_stands_straight_under_glide_error(self):
        for name in NAMES:
            with self.subTest(name=name):
                self.assertEqual(getattr(errors, name).__bases__, (errors.GlideError,))

    def test_none_stands_under_another(self):
        for name in NAMES:
            for other in NAMES:
                if name != other:
                    with self.subTest(name=name, other=other):
                        self.assertFalse(issubclass(getattr(errors, name), getattr(errors, other)))

    def test_there_are_no_other_refusals(self):
        found = [name for name, thing in vars(errors).items() if isinstance(thing, type)]
        self.assertEqual(sorted(found), sorted(NAMES + ["GlideError"]))

    def test_each_can_be_raised_with_words_and_taken_as_glide_error(self):
        for name in NAMES:
            with self.subTest(name=name):
                with self.assertRaises(errors.GlideError):
                    raise getattr(errors, name)("some words")


if __name__ == "__main__":
    unittest.main()
