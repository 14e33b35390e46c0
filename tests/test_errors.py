"""Tests of the errors (0.4 and the heading mintlaw/errors.py)."""

import unittest

from mintlaw.errors import BadLogs, BadPlan, BadSystem, BadText, MintError, NotPossible
from mintlaw.texts import read_run
from tests.samples import SHOP


class ErrorTests(unittest.TestCase):
    def test_base_classes(self):
        self.assertEqual(MintError.__bases__, (ValueError,))
        for kind in (BadText, BadSystem, BadPlan, NotPossible, BadLogs):
            self.assertEqual(kind.__bases__, (MintError,))
            self.assertEqual(kind.__module__, "mintlaw.errors")

    def test_attributes_are_set_at_the_beginning(self):
        self.assertEqual(BadText(3).line, 3)
        self.assertEqual(BadText(line=4).line, 4)
        self.assertEqual(NotPossible(0).number, 0)
        self.assertEqual(NotPossible(number=7).number, 7)

    def test_errors_with_any_words(self):
        for kind in (MintError, BadSystem, BadPlan, BadLogs):
            self.assertEqual(str(kind("some words")), "some words")

    def test_words_are_texts(self):
        for error in (BadText(1), NotPossible(2)):
            self.assertIsInstance(str(error), str)

    def test_a_raised_error_is_a_value_error_with_its_line(self):
        with self.assertRaises(ValueError) as caught:
            read_run(SHOP, "")
        self.assertIsInstance(caught.exception, BadText)
        self.assertEqual(caught.exception.line, 1)


if __name__ == "__main__":
    unittest.main()
