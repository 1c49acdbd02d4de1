"""The errors of the interface."""

import unittest

from mistakesigns.errors import MistakeError, NoSign, NoText


class Errors(unittest.TestCase):
    def test_refusals_are_value_errors(self):
        self.assertEqual(MistakeError.__bases__, (ValueError,))

    def test_each_refusal_is_below_mistake_error(self):
        for kind in (NoText, NoSign):
            self.assertTrue(issubclass(kind, MistakeError))
            self.assertIsNot(kind, MistakeError)

    def test_none_is_below_another(self):
        self.assertFalse(issubclass(NoText, NoSign))
        self.assertFalse(issubclass(NoSign, NoText))

    def test_they_are_raised_and_caught_as_refusals(self):
        for kind in (MistakeError, NoText, NoSign):
            with self.assertRaises(MistakeError):
                raise kind("why")


if __name__ == "__main__":
    unittest.main()
