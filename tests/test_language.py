"""Some rules of the language that each later change may break by oversight."""

import ast
import builtins
import unittest
from pathlib import Path

PACKAGE = Path(__file__).resolve().parent.parent / "ringrows"
LIBRARY = ("math", "heapq", "itertools")


def files():
    return [(path.name, path.read_text()) for path in sorted(PACKAGE.rglob("*.py"))]


class TestLanguage(unittest.TestCase):
    def test_characters_and_sizes(self):
        self.assertGreater(len(files()), 1)
        for name, text in files():
            lines = text.split("\n")
            self.assertLessEqual(len(lines) - 1, 399, name)
            for number, line in enumerate(lines, 1):
                self.assertLessEqual(len(line), 120, (name, number))
                self.assertTrue(all(" " <= mark <= "~" for mark in line), (name, number))

    def test_functions(self):
        for name, text in files():
            for node in ast.walk(ast.parse(text)):
                if isinstance(node, ast.FunctionDef):
                    self.assertLessEqual(node.end_lineno - node.lineno + 1, 40, (name, node.name))

    def test_imports(self):
        for name, text in files():
            for node in ast.walk(ast.parse(text)):
                self.assertNotIsInstance(node, ast.Import, name)
                if isinstance(node, ast.ImportFrom):
                    self.assertTrue(node.module in LIBRARY or node.module.startswith("ringrows."), (name, node.lineno))

    def test_no_name_of_a_builtin_is_bound(self):
        for name, text in files():
            for node in ast.walk(ast.parse(text)):
                bound = [node.arg] if isinstance(node, ast.arg) else []
                if isinstance(node, ast.Name) and isinstance(node.ctx, ast.Store):
                    bound = [node.id]
                for told in bound:
                    self.assertFalse(hasattr(builtins, told), (name, node.lineno, told))

    def test_all_any_and_the_like_take_lists(self):
        takers = ("any", "all", "min", "max", "sum", "sorted")
        for name, text in files():
            for node in ast.walk(ast.parse(text)):
                if isinstance(node, ast.Call) and isinstance(node.func, ast.Name) and node.func.id in takers:
                    for passed in node.args:
                        self.assertNotIsInstance(passed, ast.GeneratorExp, (name, node.lineno))


if __name__ == "__main__":
    unittest.main()
