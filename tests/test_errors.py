"""The classes of errors: part one, and the interface."""

import unittest

from betstall import errors

NAMES = ("TooLong", "TooMany", "NoWorld", "NotAlike", "Unfair", "Fair", "NoBet", "NoHolder", "NoStake",
         "NoTicket", "NoCover", "NoSaying", "NoDeed", "NoStep", "NoText")


class TestErrors(unittest.TestCase):

    def test_each_is_made_of_nothing(self):
        for name in NAMES + ("StallError",):
            made = getattr(errors, name)()
            self.assertIsInstance(made, errors.StallError)
            self.assertIsInstance(made, ValueError)
            self.assertEqual(type(made).__name__, name)
            self.assertEqual(made.named, name)
            self.assertEqual(made.args, ())

    def test_what_stands_straight_under_what(self):
        self.assertEqual(errors.StallError.__bases__, (ValueError,))
        for name in NAMES:
            self.assertEqual(getattr(errors, name).__bases__, (errors.StallError,))

    def test_none_stands_under_another(self):
        for name in NAMES:
            for other in NAMES:
                if name != other:
                    self.assertFalse(issubclass(getattr(errors, name), getattr(errors, other)))
            self.assertFalse(issubclass(errors.StallError, getattr(errors, name)))

    def test_there_are_sixteen(self):
        classes = [one for one in vars(errors).values() if isinstance(one, type)]
        self.assertEqual(sorted(one.__name__ for one in classes), sorted(NAMES + ("StallError",)))


if __name__ == "__main__":
    unittest.main()
