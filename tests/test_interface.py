"""Where each name of the interface is defined, and what it takes."""

import ast
import importlib
import inspect
import unittest
from pathlib import Path

import benchpair
from benchpair.answers import Answer, Never, Soonest, Within

PACKAGE = Path(benchpair.__file__).parent

CLASSES = {
    "errors": ("BenchError", "BadThings", "BadOrder", "BadTime", "BadText"),
    "answers": ("Answer", "Soonest", "Within", "Never"),
}
FUNCTIONS = {
    "things": {"done": ["things", "order"], "starts": ["things", "order"]},
    "telling": {"soonest": ["things"], "within": ["things", "time"]},
    "texts": {"written": ["things"], "read": ["text"]},
}
FIELDS = {
    Soonest: ["order", "bench", "apart", "length"],
    Within: ["order"],
    Never: ["bench", "apart", "length"],
}
SHOWS = {Soonest: ["things"], Within: ["things", "time"], Never: ["things", "time"]}


def defined_in(parts, kind):
    """The names that rows of a file or a class define by class or def."""
    return [node.name for node in parts if isinstance(node, kind)]


def file_rows(name):
    """The rows of a file of the package, as Python reads them."""
    return ast.parse((PACKAGE / f"{name}.py").read_text(encoding="utf-8")).body


class InterfaceTest(unittest.TestCase):
    def assert_takes(self, function, names):
        told = inspect.signature(function)
        self.assertEqual(list(told.parameters), names)
        for parameter in told.parameters.values():
            self.assertIs(parameter.kind, inspect.Parameter.POSITIONAL_OR_KEYWORD)
            self.assertIs(parameter.default, inspect.Parameter.empty)

    def test_classes_are_defined_in_their_file(self):
        for file_name, names in CLASSES.items():
            module = importlib.import_module(f"benchpair.{file_name}")
            for name in names:
                with self.subTest(file=file_name, name=name):
                    self.assertEqual(defined_in(file_rows(file_name), ast.ClassDef).count(name), 1)
                    self.assertEqual(getattr(module, name).__module__, module.__name__)
                    self.assertEqual(getattr(module, name).__name__, name)

    def test_functions_are_defined_in_their_file(self):
        for file_name, functions in FUNCTIONS.items():
            module = importlib.import_module(f"benchpair.{file_name}")
            for name in functions:
                with self.subTest(file=file_name, name=name):
                    names = defined_in(file_rows(file_name), ast.FunctionDef)
                    self.assertEqual(names.count(name), 1)
                    self.assertEqual(getattr(module, name).__module__, module.__name__)

    def test_functions_take_the_listed_arguments(self):
        for file_name, functions in FUNCTIONS.items():
            module = importlib.import_module(f"benchpair.{file_name}")
            for name, parameters in functions.items():
                with self.subTest(name=name):
                    self.assert_takes(getattr(module, name), parameters)

    def test_answers_stand_straight_under_answer(self):
        for kind in FIELDS:
            with self.subTest(kind=kind.__name__):
                self.assertEqual(kind.__bases__, (Answer,))

    def test_answers_take_their_fields(self):
        for kind, fields in FIELDS.items():
            with self.subTest(kind=kind.__name__):
                self.assert_takes(kind, fields)

    def test_shows_takes_the_listed_arguments(self):
        for kind, parameters in SHOWS.items():
            with self.subTest(kind=kind.__name__):
                self.assert_takes(kind.shows, ["self"] + parameters)

    def test_shows_is_defined_in_the_body_of_each_answer(self):
        bodies = {row.name: row.body for row in file_rows("answers")
                  if isinstance(row, ast.ClassDef)}
        for kind in FIELDS:
            with self.subTest(kind=kind.__name__):
                names = defined_in(bodies[kind.__name__], ast.FunctionDef)
                self.assertEqual(names.count("shows"), 1)
                self.assertIn("shows", vars(kind))


if __name__ == "__main__":
    unittest.main()
