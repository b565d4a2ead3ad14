"""[2], the interface: the refusals."""

import unittest

from knotlessrows import errors

NAMES = [
    "NoPlaces", "TooMany", "NoShelf", "NoNumber", "NoRow",
    "NoChain", "NoText", "NoSaying", "NoName", "NoDeed",
]


class ErrorsTest(unittest.TestCase):

    def test_base_is_straight_under_value_error(self):
        self.assertEqual(errors.RowError.__bases__, (ValueError,))

    def test_others_are_straight_under_the_base(self):
        for name in NAMES:
            with self.subTest(name=name):
                self.assertEqual(getattr(errors, name).__bases__, (errors.RowError,))

    def test_none_is_under_another_one(self):
        for name in NAMES:
            for other in NAMES:
                with self.subTest(name=name, other=other):
                    under = issubclass(getattr(errors, name), getattr(errors, other))
                    self.assertEqual(under, name == other)

    def test_each_has_its_own_name(self):
        for name in NAMES + ["RowError"]:
            self.assertEqual(getattr(errors, name).__name__, name)

    def test_there_are_no_others(self):
        classes = [name for name, thing in vars(errors).items() if isinstance(thing, type)]
        self.assertEqual(sorted(classes), sorted(NAMES + ["RowError"]))


if __name__ == "__main__":
    unittest.main()
