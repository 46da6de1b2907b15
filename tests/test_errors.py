"""The classes of samestride.errors."""

import unittest

from samestride.errors import NoName, NoTerm, StrideError, Wide


class Errors(unittest.TestCase):
    def test_base(self):
        self.assertEqual(StrideError.__name__, "StrideError")
        self.assertEqual(StrideError.__bases__, (ValueError,))

    def test_each_stands_straight_under_the_base(self):
        for error, name in ((NoTerm, "NoTerm"), (NoName, "NoName"), (Wide, "Wide")):
            self.assertEqual(error.__name__, name)
            self.assertEqual(error.__bases__, (StrideError,))

    def test_none_is_another(self):
        for error in (NoTerm, NoName, Wide):
            for other in (NoTerm, NoName, Wide):
                self.assertEqual(issubclass(error, other), error.__name__ == other.__name__)

    def test_raised_and_taken(self):
        for error in (NoTerm, NoName, Wide):
            with self.assertRaises(StrideError):
                raise error("words")
            with self.assertRaises(ValueError):
                raise error("words")


if __name__ == "__main__":
    unittest.main()
