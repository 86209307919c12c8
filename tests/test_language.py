"""The rules of the language that can be seen from the files of the package alone."""

import ast
import builtins
import unittest
import warnings
from pathlib import Path

import benchpair

PACKAGE = Path(benchpair.__file__).parent
PLAIN_NAME = set("abcdefghijklmnopqrstuvwxyz0123456789_")
LIBRARY = {"heapq", "math", "itertools", "collections"}
ENTRIES = [path for path in sorted(PACKAGE.rglob("*")) if "__pycache__" not in path.parts]
FILES = [path for path in ENTRIES if path.suffix == ".py"]
BARRED = (ast.AsyncFunctionDef, ast.Await, ast.Global, ast.Import)
MODULE_ROWS = (ast.ImportFrom, ast.FunctionDef, ast.ClassDef, ast.Assign)
BUILTINS = set("""
    len range enumerate zip min max sum abs sorted reversed int str bool bytes list tuple dict set
    isinstance ord repr any all divmod pow map iter next ValueError TypeError KeyError IndexError
    Exception LookupError ZeroDivisionError
""".split())
METHODS = set("""
    append clear copy count endswith extend find get index insert isalnum isalpha isdigit islower
    isspace isupper items join keys ljust lower lstrip partition pop remove replace reverse rfind
    rjust rpartition rsplit rstrip setdefault split splitlines startswith strip update upper values
    zfill bit_length
""".split())


def source(path):
    """The text of a file of the package."""
    return path.read_text(encoding="utf-8")


def nodes(path):
    """All parts of a file of the package."""
    return list(ast.walk(ast.parse(source(path))))


class LanguageTest(unittest.TestCase):
    def test_the_package_holds_plain_files_only(self):
        self.assertIn(PACKAGE / "__init__.py", FILES)
        for path in ENTRIES:
            with self.subTest(path=str(path)):
                self.assertTrue(path.is_dir() or path.suffix == ".py")
                self.assertLessEqual(set(path.stem), PLAIN_NAME)

    def test_sizes_and_characters(self):
        for path in FILES:
            with self.subTest(path=str(path)):
                text = source(path)
                self.assertLessEqual(len(text.splitlines()), 399)
                self.assertLessEqual(max([len(line) for line in text.split("\n")]), 120)
                self.assertTrue(all(sign == "\n" or " " <= sign <= "~" for sign in text))

    def test_functions_are_short_and_classes_bare(self):
        for path in FILES:
            for node in nodes(path):
                if isinstance(node, ast.FunctionDef):
                    with self.subTest(path=str(path), name=node.name):
                        self.assertLessEqual(node.end_lineno - node.lineno + 1, 40)
                if isinstance(node, ast.ClassDef):
                    with self.subTest(path=str(path), name=node.name):
                        self.assertEqual(node.decorator_list, [])

    def test_imports_are_of_the_package_by_full_names(self):
        for path in FILES:
            for node in nodes(path):
                if isinstance(node, ast.ImportFrom):
                    with self.subTest(path=str(path), line=node.lineno):
                        self.assertEqual(node.level, 0)
                        first = node.module.split(".")[0]
                        self.assertIn(first, LIBRARY | {"benchpair", "__future__"})
                        self.assertNotIn("*", [name.name for name in node.names])

    def test_no_barred_statement_float_or_slash(self):
        for path in FILES:
            for node in nodes(path):
                with self.subTest(path=str(path), line=getattr(node, "lineno", 0)):
                    self.assertNotIsInstance(node, BARRED + (ast.Div,))
                    if isinstance(node, ast.Constant):
                        self.assertNotIsInstance(node.value, (float, complex))

    def test_module_level_holds_plain_rows(self):
        for path in FILES:
            for row in ast.parse(source(path)).body:
                with self.subTest(path=str(path), line=row.lineno):
                    if isinstance(row, ast.Expr):
                        self.assertIsInstance(row.value.value, str)
                    else:
                        self.assertIsInstance(row, MODULE_ROWS)

    def test_builtins_are_those_of_the_language(self):
        for path in FILES:
            for node in nodes(path):
                if isinstance(node, ast.Name) and hasattr(builtins, node.id):
                    with self.subTest(path=str(path), line=node.lineno):
                        self.assertIn(node.id, BUILTINS)
                        self.assertIsInstance(node.ctx, ast.Load)

    def test_methods_called_are_own_or_those_of_the_language(self):
        found = [node for path in FILES for node in nodes(path)]
        own = {node.name for node in found if isinstance(node, ast.FunctionDef)}
        for node in found:
            if isinstance(node, ast.Call) and isinstance(node.func, ast.Attribute):
                with self.subTest(method=node.func.attr, line=node.lineno):
                    self.assertIn(node.func.attr, METHODS | own)
                    self.assertEqual(node.keywords, [])

    def test_python_gives_no_warning(self):
        for path in FILES:
            with self.subTest(path=str(path)):
                with warnings.catch_warnings():
                    warnings.simplefilter("error")
                    compile(source(path), str(path), "exec")


if __name__ == "__main__":
    unittest.main()
