"""headsgrow/errors.py: the classes and how they stand."""

import unittest

from headsgrow import errors

SEVEN = ("BadTree", "BadWay", "BadTimes", "BadNumber", "BadBase", "BadText", "TooGreat")


class Errors(unittest.TestCase):
    def test_head_error_is_a_value_error(self):
        self.assertEqual(errors.HeadError.__bases__, (ValueError,))
        self.assertEqual(errors.HeadError.__name__, "HeadError")

    def test_seven_stand_straight_under_it(self):
        for name in SEVEN:
            with self.subTest(name=name):
                self.assertEqual(getattr(errors, name).__bases__, (errors.HeadError,))
                self.assertEqual(getattr(errors, name).__name__, name)

    def test_none_stands_under_another(self):
        for name in SEVEN:
            for other in SEVEN:
                under = issubclass(getattr(errors, name), getattr(errors, other))
                self.assertEqual(under, name == other, (name, other))

    def test_each_is_defined_there(self):
        for name in ("HeadError",) + SEVEN:
            self.assertEqual(getattr(errors, name).__module__, "headsgrow.errors")

    def test_each_can_be_raised_and_caught_by_head_error(self):
        for name in SEVEN:
            with self.assertRaises(errors.HeadError) as caught:
                raise getattr(errors, name)("why")
            self.assertEqual(str(caught.exception), "why")


if __name__ == "__main__":
    unittest.main()
