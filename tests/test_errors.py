"""The refusals: one root, and nothing under another."""

import unittest

from errands import errors
from errands.errors import PlanError

NAMES = ("NoBook", "NoState", "NoWant", "NoErrand", "NoRow", "NoWay", "NoPaper", "NoFacts", "NoNumber", "Nothing",
         "NoText")


class Errors(unittest.TestCase):
    def test_each_is_taken_by_plan_error_and_is_a_value_error(self):
        for name in NAMES:
            with self.subTest(name=name):
                refusal = getattr(errors, name)
                with self.assertRaises(PlanError) as caught:
                    raise refusal()
                self.assertIsInstance(caught.exception, ValueError)

    def test_none_is_under_another(self):
        for name in NAMES:
            for other in NAMES:
                with self.subTest(name=name, other=other):
                    under = issubclass(getattr(errors, name), getattr(errors, other))
                    self.assertEqual(under, name == other)

    def test_the_root_is_no_one_refusal(self):
        self.assertEqual(PlanError.__bases__, (ValueError,))
        for name in NAMES:
            with self.subTest(name=name):
                self.assertEqual(getattr(errors, name).__bases__, (PlanError,))

    def test_no_row_has_its_number(self):
        self.assertIsNone(errors.NoRow(None).number)
        self.assertEqual(errors.NoRow(0).number, 0)
        self.assertEqual(errors.NoRow(63).number, 63)


if __name__ == "__main__":
    unittest.main()
