"""The errors of the interface, and where each name of it is defined."""

import ast
import inspect
import unittest
from pathlib import Path

import benchpair.errors
import benchpair.things
from benchpair.errors import BadOrder, BadText, BadThings, BadTime, BenchError

PACKAGE = Path(benchpair.errors.__file__).parent
REFUSALS = (BadThings, BadOrder, BadTime, BadText)


def defined_names(file_name, kind):
    """The names that a file of the package defines by class or def, at module level."""
    tree = ast.parse((PACKAGE / file_name).read_text(encoding="utf-8"))
    return [node.name for node in tree.body if isinstance(node, kind)]


class ErrorsTest(unittest.TestCase):
    def test_bench_error_is_straight_under_value_error(self):
        self.assertEqual(BenchError.__bases__, (ValueError,))

    def test_each_refusal_is_straight_under_bench_error(self):
        for refusal in REFUSALS:
            with self.subTest(refusal=refusal.__name__):
                self.assertEqual(refusal.__bases__, (BenchError,))

    def test_no_refusal_is_another_one(self):
        for refusal in REFUSALS:
            for other in REFUSALS:
                with self.subTest(refusal=refusal.__name__, other=other.__name__):
                    self.assertEqual(issubclass(refusal, other), refusal is other)

    def test_each_error_has_its_name(self):
        names = [error.__name__ for error in (BenchError,) + REFUSALS]
        self.assertEqual(names, ["BenchError", "BadThings", "BadOrder", "BadTime", "BadText"])

    def test_each_error_can_be_raised_and_told(self):
        for error in (BenchError,) + REFUSALS:
            with self.subTest(error=error.__name__):
                with self.assertRaises(ValueError) as caught:
                    raise error("refused")
                self.assertIs(type(caught.exception), error)
                self.assertEqual(str(caught.exception), "refused")


class PlacesTest(unittest.TestCase):
    def test_errors_are_defined_in_their_file(self):
        names = defined_names("errors.py", ast.ClassDef)
        for name in ("BenchError", "BadThings", "BadOrder", "BadTime", "BadText"):
            with self.subTest(name=name):
                self.assertEqual(names.count(name), 1)
                self.assertEqual(getattr(benchpair.errors, name).__module__, "benchpair.errors")

    def test_functions_are_defined_in_their_file(self):
        names = defined_names("things.py", ast.FunctionDef)
        for name in ("done", "starts"):
            with self.subTest(name=name):
                self.assertEqual(names.count(name), 1)
                self.assertEqual(getattr(benchpair.things, name).__module__, "benchpair.things")

    def test_functions_take_the_listed_arguments(self):
        for name in ("done", "starts"):
            with self.subTest(name=name):
                told = inspect.signature(getattr(benchpair.things, name))
                self.assertEqual(list(told.parameters), ["things", "order"])
                for parameter in told.parameters.values():
                    self.assertIs(parameter.kind, inspect.Parameter.POSITIONAL_OR_KEYWORD)
                    self.assertIs(parameter.default, inspect.Parameter.empty)


if __name__ == "__main__":
    unittest.main()
