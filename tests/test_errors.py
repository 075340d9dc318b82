"""The error classes."""

import unittest

from severalmaps import errors

NAMES = ("BadModule", "BadPassage", "BadArgument", "BadText", "TooLarge", "BadLine")


class ErrorsTest(unittest.TestCase):
    def test_each_is_a_severalmaps_error_and_a_value_error(self):
        self.assertTrue(issubclass(errors.SeveralmapsError, ValueError))
        for name in NAMES:
            self.assertTrue(issubclass(getattr(errors, name), errors.SeveralmapsError), name)
            with self.assertRaises(errors.SeveralmapsError):
                raise getattr(errors, name)("words")

    def test_none_is_under_another_one(self):
        for name in NAMES:
            for other in NAMES:
                under = issubclass(getattr(errors, name), getattr(errors, other))
                self.assertEqual(under, name == other, (name, other))

    def test_they_are_defined_in_their_file(self):
        for name in NAMES + ("SeveralmapsError",):
            self.assertEqual(getattr(errors, name).__module__, "severalmaps.errors")


if __name__ == "__main__":
    unittest.main()
