"""The classes of refusals: point 2 and the interface."""

import unittest

from leastcross import errors

NAMES = ("NoWeb", "NoDrawing", "NoPoints", "NoTie", "NoRoute", "NoLens", "NoOrder", "NoText", "TooMany")


class Refusals(unittest.TestCase):
    def test_any_refusal_is_a_value_error(self):
        self.assertEqual(errors.CrossError.__bases__, (ValueError,))

    def test_each_class_is_under_cross_error_alone(self):
        for name in NAMES:
            with self.subTest(name=name):
                self.assertEqual(getattr(errors, name).__bases__, (errors.CrossError,))


if __name__ == "__main__":
    unittest.main()
