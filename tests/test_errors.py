"""The interface's section rankgarth/errors.py."""

import unittest

from rankgarth import errors

NAMES = [
    "NoHand", "NoRank", "NoWay", "NoAmount", "NoPlace", "NoRule", "NoMachine",
    "NoAsk", "NoWish", "NoText", "NoName", "NoRow", "NoMove", "TooMany",
]


class ErrorsTest(unittest.TestCase):
    def test_any_refusal_is_a_value_error(self):
        self.assertEqual(errors.GarthError.__bases__, (ValueError,))

    def test_each_refusal_stands_under_garth_error_alone(self):
        for name in NAMES:
            self.assertEqual(getattr(errors, name).__bases__, (errors.GarthError,), name)

    def test_there_are_fifteen_of_their_own(self):
        classes = [getattr(errors, name) for name in NAMES + ["GarthError"]]
        self.assertEqual(len(set(classes)), 15)

    def test_each_is_raised_and_taken(self):
        for name in NAMES:
            one = getattr(errors, name)
            with self.assertRaises(errors.GarthError):
                raise one("words")
            with self.assertRaises(ValueError):
                raise one("words")
            with self.assertRaises(one):
                raise one("words")


if __name__ == "__main__":
    unittest.main()
