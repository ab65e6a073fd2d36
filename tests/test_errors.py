"""The error classes: point 1 and the section bucketsums/errors.py."""
import unittest

from bucketsums import errors

WITH_INDEX = ("BadStream", "BadNotes", "BadAsks")
PLAIN = (
    "BadCounts", "BadColumn", "BadValue", "BadRange", "BadCuts", "BadHistogram", "BadNumber",
    "BadIndex", "BadPlaces", "BadCoefficients", "BadCounters", "BadSum", "BadSums", "Unlike",
    "TooLarge", "NotPossible", "NothingDone", "BadCaps", "BadFills", "BadTotals",
)


class Errors(unittest.TestCase):
    def test_sum_error_is_a_value_error(self):
        self.assertEqual(errors.SumError.__bases__, (ValueError,))

    def test_each_is_a_direct_subclass(self):
        for name in PLAIN + WITH_INDEX + ("BadText",):
            with self.subTest(name=name):
                self.assertEqual(getattr(errors, name).__bases__, (errors.SumError,))
                self.assertEqual(getattr(errors, name).__module__, "bucketsums.errors")

    def test_there_are_no_others(self):
        found = {item.__name__ for item in errors.SumError.__subclasses__()}
        self.assertEqual(found, set(PLAIN + WITH_INDEX + ("BadText",)))

    def test_attributes(self):
        for name in WITH_INDEX:
            with self.subTest(name=name):
                self.assertEqual(getattr(errors, name)(3).index, 3)
                self.assertIsNone(getattr(errors, name)(None).index)
                self.assertRegex(str(getattr(errors, name)(3)), "[a-z]+ [a-z]+")
        self.assertEqual(errors.BadText(2).line, 2)
        self.assertRegex(str(errors.BadText(2)), "[a-z]+ [a-z]+")

    def test_plain_ones_take_words(self):
        for name in PLAIN:
            with self.subTest(name=name):
                self.assertEqual(str(getattr(errors, name)("some words")), "some words")


if __name__ == "__main__":
    unittest.main()
