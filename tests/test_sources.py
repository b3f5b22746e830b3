"""Holds the package's files to what no answer can show: no clock, chance or files, and the small language."""
import ast
import builtins
import pathlib
import unittest

import marksteps

FOLDER = pathlib.Path(marksteps.__file__).parent
OWN_NAMES = set("""
    len range enumerate zip min max sum abs sorted reversed int str bool list tuple dict set frozenset
    isinstance ord repr any all divmod Exception ValueError TypeError KeyError IndexError LookupError
    ZeroDivisionError ArithmeticError OverflowError RuntimeError NotImplementedError StopIteration
""".split())
OUT = (
    ast.With, ast.Match, ast.Delete, ast.Global, ast.Nonlocal, ast.Assert, ast.Yield, ast.YieldFrom,
    ast.AsyncFunctionDef, ast.Await, ast.GeneratorExp, ast.SetComp, ast.DictComp, ast.NamedExpr,
    ast.Starred, ast.Div, ast.Import,
)


def sources():
    return [(path, path.read_text(encoding="utf-8")) for path in sorted(FOLDER.glob("*.py"))]


def nodes():
    return [(path.name, node) for path, text in sources() for node in ast.walk(ast.parse(text))]


class SourcesTest(unittest.TestCase):
    def test_files_are_there(self):
        names = [path.name for path, text in sources()]
        for name in ("__init__.py", "choosing.py", "counts.py", "errors.py", "listing.py", "turning.py"):
            self.assertIn(name, names)

    def test_only_files_of_the_language(self):
        others = [path.name for path in FOLDER.iterdir() if path.suffix != ".py" and path.name != "__pycache__"]
        self.assertEqual(others, [])

    def test_imports_are_the_packages_own(self):
        for name, node in nodes():
            if isinstance(node, ast.ImportFrom):
                self.assertEqual(node.level, 0, name)
                self.assertTrue(node.module.startswith("marksteps."), (name, node.module))

    def test_no_other_built_in_name(self):
        for name, node in nodes():
            if isinstance(node, ast.Name) and (hasattr(builtins, node.id) or node.id.startswith("__")):
                self.assertIn(node.id, OWN_NAMES, (name, node.lineno))

    def test_no_form_outside_the_language(self):
        for name, node in nodes():
            self.assertNotIsInstance(node, OUT, (name, getattr(node, "lineno", None)))
            if isinstance(node, ast.Constant):
                self.assertNotIsInstance(node.value, (float, complex, bytes), (name, node.lineno))
            if isinstance(node, ast.BinOp) and isinstance(node.op, ast.Pow):
                self.assertIsInstance(node.right, ast.Constant, (name, node.lineno))
            if isinstance(node, ast.Assign):
                self.assertEqual(len(node.targets), 1, (name, node.lineno))
            if isinstance(node, (ast.For, ast.While)):
                self.assertEqual(node.orelse, [], (name, node.lineno))
            if isinstance(node, (ast.FunctionDef, ast.ClassDef)):
                self.assertEqual(node.decorator_list, [], (name, node.lineno))

    def test_size_and_signs(self):
        for path, text in sources():
            lines = text.split("\n")
            self.assertLessEqual(len(lines), 400, path.name)
            self.assertTrue(all(len(line) <= 120 for line in lines), path.name)
            self.assertTrue(all(" " <= sign <= "~" or sign == "\n" for sign in text), path.name)

    def test_functions_are_short(self):
        for name, node in nodes():
            if isinstance(node, ast.FunctionDef):
                self.assertLessEqual(node.end_lineno - node.lineno + 1, 40, (name, node.name))


if __name__ == "__main__":
    unittest.main()
