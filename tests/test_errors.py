"""The interface of errors.py."""

import unittest

from keyfold.errors import FoldError, NoKey, NoText


class Errors(unittest.TestCase):
    def test_fold_error_is_a_value_error(self):
        self.assertTrue(issubclass(FoldError, ValueError))

    def test_both_refusals_stand_below_fold_error(self):
        self.assertTrue(issubclass(NoKey, FoldError))
        self.assertTrue(issubclass(NoText, FoldError))

    def test_neither_refusal_stands_below_the_other(self):
        self.assertFalse(issubclass(NoKey, NoText))
        self.assertFalse(issubclass(NoText, NoKey))
        self.assertNotEqual(FoldError, NoKey)
        self.assertNotEqual(FoldError, NoText)


if __name__ == "__main__":
    unittest.main()
