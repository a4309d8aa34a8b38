"""The refusals: nine kinds straight under one."""

import unittest

from farshells import errors

NAMES = ("NoRatio", "NoGrid", "NoPlace", "TooFar", "TooMany", "NotTogether", "NoText", "NoLine", "NoBack")


class Errors(unittest.TestCase):
    def test_any_refusal_is_a_value_error(self):
        self.assertEqual(errors.ShellError.__bases__, (ValueError,))

    def test_each_stands_straight_under_the_one(self):
        for name in NAMES:
            with self.subTest(name):
                self.assertEqual(getattr(errors, name).__bases__, (errors.ShellError,))

    def test_none_is_another(self):
        for name in NAMES:
            one = getattr(errors, name)("why")
            self.assertIsInstance(one, errors.ShellError)
            self.assertIsInstance(one, ValueError)
            for other in NAMES:
                with self.subTest(one=name, other=other):
                    self.assertEqual(isinstance(one, getattr(errors, other)), name == other)

    def test_each_is_made_of_a_text(self):
        for name in ("ShellError",) + NAMES:
            for text in ("", "why", "w" * 4000):
                with self.subTest(name):
                    with self.assertRaises(getattr(errors, name)):
                        raise getattr(errors, name)(text)


if __name__ == "__main__":
    unittest.main()
