"""Point [3]: the classes of the refusals."""

import unittest

from farcuts import errors

NAMES = (
    "NoNumber", "NoTable", "NoPoint", "NoCut", "NoOrder", "TooMany",
    "NoWeb", "NoText", "NoName", "NoRow",
)


class ErrorClasses(unittest.TestCase):
    def test_cut_error_stands_straight_under_value_error(self):
        self.assertEqual(errors.CutError.__bases__, (ValueError,))

    def test_each_class_stands_straight_under_cut_error(self):
        for name in NAMES:
            with self.subTest(name):
                self.assertEqual(getattr(errors, name).__bases__, (errors.CutError,))

    def test_none_stands_under_another(self):
        classes = [getattr(errors, name) for name in NAMES]
        self.assertEqual(len(set(classes)), len(NAMES))
        for one in classes:
            for other in classes:
                if one is not other:
                    self.assertFalse(issubclass(one, other), (one, other))

    def test_each_bears_its_own_name(self):
        for name in NAMES + ("CutError",):
            self.assertEqual(getattr(errors, name).__name__, name)

    def test_each_is_made_with_one_text_and_taken_as_a_cut_error(self):
        for name in NAMES + ("CutError",):
            with self.subTest(name):
                made = getattr(errors, name)("some words")
                self.assertEqual(str(made), "some words")
                with self.assertRaises(errors.CutError):
                    raise made


if __name__ == "__main__":
    unittest.main()
