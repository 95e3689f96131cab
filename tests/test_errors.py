"""The error classes of the interface."""

import unittest

from codemill import errors

NAMES = ("BadCode", "BadNames", "BadNumber", "Unsound", "BadOrder", "BadText", "BadUnits", "BadBytes")


class ErrorsTest(unittest.TestCase):
    def test_mill_error_stands_below_runtime_error(self):
        self.assertEqual(errors.MillError.__bases__, (RuntimeError,))

    def test_each_stands_straight_below_mill_error(self):
        for name in NAMES:
            with self.subTest(name):
                self.assertEqual(getattr(errors, name).__bases__, (errors.MillError,))

    def test_none_stands_below_another(self):
        for name in NAMES:
            for other in NAMES:
                if name != other:
                    with self.subTest(name=name, other=other):
                        self.assertFalse(issubclass(getattr(errors, name), getattr(errors, other)))

    def test_at_is_set_when_made(self):
        for refusal in (errors.BadCode, errors.BadText):
            for at in (None, 0, 149):
                with self.subTest(refusal=refusal, at=at):
                    self.assertEqual(refusal(at).at, at)


if __name__ == "__main__":
    unittest.main()
