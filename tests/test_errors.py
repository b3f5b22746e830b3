import unittest

from marksteps import errors
from marksteps.errors import NoChange, NoForm, NoPlace, NoRow, RowError

REFUSALS = (NoForm, NoPlace, NoRow, NoChange)


class ErrorsTest(unittest.TestCase):
    def test_each_name_is_there(self):
        for name in ("RowError", "NoForm", "NoPlace", "NoRow", "NoChange"):
            with self.subTest(name=name):
                self.assertEqual(getattr(errors, name).__name__, name)

    def test_row_error_stands_under_value_error(self):
        self.assertTrue(issubclass(RowError, ValueError))
        self.assertIsNot(RowError, ValueError)

    def test_each_refusal_stands_under_row_error_and_value_error(self):
        for refusal in REFUSALS:
            with self.subTest(refusal=refusal):
                self.assertTrue(issubclass(refusal, RowError))
                self.assertTrue(issubclass(refusal, ValueError))
                self.assertFalse(issubclass(RowError, refusal))

    def test_no_refusal_stands_under_another_one(self):
        for refusal in REFUSALS:
            under = [other for other in REFUSALS if issubclass(refusal, other)]
            self.assertEqual(under, [refusal])

    def test_each_refusal_is_raised_and_taken_by_its_own_name_alone(self):
        for refusal in REFUSALS:
            others = tuple(other for other in REFUSALS if other is not refusal)
            with self.subTest(refusal=refusal):
                with self.assertRaises(RowError) as taken:
                    try:
                        raise refusal("some words")
                    except others:
                        self.fail("taken as another refusal")
                self.assertIs(type(taken.exception), refusal)


if __name__ == "__main__":
    unittest.main()
