"""The errors of the interface."""

import unittest

from benchpair.errors import BadOrder, BadText, BadThings, BadTime, BenchError

REFUSALS = (BadThings, BadOrder, BadTime, BadText)


class ErrorsTest(unittest.TestCase):
    def test_bench_error_is_straight_under_value_error(self):
        self.assertEqual(BenchError.__bases__, (ValueError,))

    def test_each_refusal_is_straight_under_bench_error(self):
        for refusal in REFUSALS:
            with self.subTest(refusal=refusal.__name__):
                self.assertEqual(refusal.__bases__, (BenchError,))

    def test_no_refusal_is_another_one(self):
        for refusal in REFUSALS:
            for other in REFUSALS:
                with self.subTest(refusal=refusal.__name__, other=other.__name__):
                    self.assertEqual(issubclass(refusal, other), refusal is other)

    def test_each_error_has_its_name(self):
        names = [error.__name__ for error in (BenchError,) + REFUSALS]
        self.assertEqual(names, ["BenchError", "BadThings", "BadOrder", "BadTime", "BadText"])

    def test_each_error_can_be_raised_and_told(self):
        for error in (BenchError,) + REFUSALS:
            with self.subTest(error=error.__name__):
                with self.assertRaises(ValueError) as caught:
                    raise error("refused")
                self.assertIs(type(caught.exception), error)
                self.assertEqual(str(caught.exception), "refused")


if __name__ == "__main__":
    unittest.main()
