"""What can be checked at a glance of the form of the package: files, sizes, characters, imports, builtins."""

import ast
import builtins
import unittest
from pathlib import Path

PACKAGE = Path(__file__).resolve().parent.parent / "frameplaces"
FILES = sorted(PACKAGE.glob("*.py"))
BUILTINS = """len range enumerate zip min max sum abs sorted reversed int str bool bytes list tuple dict set frozenset
    isinstance ord repr any all divmod super property iter next map getattr hasattr setattr Exception ValueError TypeError
    KeyError IndexError LookupError ZeroDivisionError ArithmeticError OverflowError RuntimeError NotImplementedError
    AttributeError StopIteration NotImplemented""".split()
METHODS = ("__init__", "__eq__", "__repr__", "__str__", "__len__", "__enter__", "__exit__", "__call__", "__iter__")
BARRED = ("register", "mro", "elements", "open", "input", "law", "eval", "exec", "type", "id", "vars", "dir", "globals")


class Form(unittest.TestCase):
    def test_files(self):
        self.assertTrue((PACKAGE / "__init__.py").exists())
        kept = [path.name for path in PACKAGE.iterdir() if path.name != "__pycache__"]
        self.assertEqual(sorted(kept), [path.name for path in FILES])

    def test_sizes_and_characters(self):
        for path in FILES:
            text = path.read_text(encoding="utf-8")
            self.assertTrue(all(" " <= letter <= "~" or letter == "\n" for letter in text), path.name)
            lines = text.split("\n")
            self.assertLessEqual(len(lines), 399, path.name)
            self.assertLessEqual(max(map(len, lines)), 120, path.name)

    def test_functions(self):
        for path in FILES:
            for node in ast.walk(ast.parse(path.read_text())):
                if isinstance(node, ast.FunctionDef):
                    self.assertLessEqual(node.end_lineno - node.lineno + 1, 40, node.name)
                    if node.name.startswith("__"):
                        self.assertIn(node.name, METHODS)

    def test_imports(self):
        for path in FILES:
            for node in ast.walk(ast.parse(path.read_text())):
                self.assertNotIsInstance(node, ast.Import)
                if isinstance(node, ast.ImportFrom):
                    self.assertEqual(node.level, 0)
                    self.assertTrue(node.module.startswith("frameplaces."), node.module)

    def test_imports_name_the_file_that_defines(self):
        trees = {f"frameplaces.{path.stem}": ast.parse(path.read_text()) for path in FILES}
        known = {}
        for name, tree in trees.items():
            bound = [node.name for node in tree.body if isinstance(node, (ast.FunctionDef, ast.ClassDef))]
            bound += [target.id for node in tree.body if isinstance(node, ast.Assign) for target in node.targets]
            self.assertEqual(len(bound), len(set(bound)), name)
            known[name] = bound
        needs = {}
        for name, tree in trees.items():
            imports = [node for node in ast.walk(tree) if isinstance(node, ast.ImportFrom)]
            for node in imports:
                self.assertLessEqual({alias.name for alias in node.names}, set(known[node.module]), name)
            needs[name] = {node.module for node in imports}
        while needs:
            free = [name for name in needs if not needs[name] & set(needs)]
            self.assertTrue(free, "files import each other")
            needs = {name: needs[name] for name in needs if name not in free}

    def test_names(self):
        known = set(dir(builtins))
        for path in FILES:
            for node in ast.walk(ast.parse(path.read_text())):
                if isinstance(node, ast.Name):
                    self.assertTrue(node.id not in known or node.id in BUILTINS, (path.name, node.id))
                    self.assertNotIn(node.id, BARRED)
                    if isinstance(node.ctx, ast.Store):
                        self.assertNotIn(node.id, known, path.name)
                if isinstance(node, ast.arg):
                    self.assertNotIn(node.arg, [*known, *BARRED], path.name)
                if isinstance(node, ast.Attribute):
                    self.assertNotIn(node.attr, BARRED)

    def test_no_floats_and_no_percent_signs(self):
        for path in FILES:
            for node in ast.walk(ast.parse(path.read_text())):
                self.assertNotIsInstance(node, (ast.Div, ast.Global, ast.AsyncFunctionDef))
                if isinstance(node, ast.Constant):
                    self.assertNotIsInstance(node.value, (float, complex))
                    if isinstance(node.value, str):
                        self.assertNotIn("%", node.value)


if __name__ == "__main__":
    unittest.main()
