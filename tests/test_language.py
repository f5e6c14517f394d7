"""Some rules of the language that each later change may break by oversight."""

import ast
import builtins
import re
import unittest
from pathlib import Path

from ringrows import errors

PACKAGE = Path(__file__).resolve().parent.parent / "ringrows"
LIBRARY = ("math", "heapq", "itertools")
METHODS = """append clear copy count endswith extend find get index insert isalnum isalpha isdigit islower isspace
    isupper items join keys ljust lower lstrip partition pop remove replace reverse rfind rjust rpartition rsplit rstrip
    setdefault split splitlines startswith strip update upper values zfill bit_length""".split()
WORDS = """typing typing_extensions enum Enum IntEnum StrEnum Flag IntFlag Generic Protocol ABC ABCMeta namedtuple
    NamedTuple TypedDict TYPE_CHECKING abstractmethod""".split()
NAMES = "register mro elements open input law version_info type id dir compile exit help super vars copyright".split()


def files():
    return [(path.name, path.read_text()) for path in sorted(PACKAGE.rglob("*.py"))]


def nodes(kind):
    """All (file, node) of a kind in the package."""
    return [(name, node) for name, text in files() for node in ast.walk(ast.parse(text)) if isinstance(node, kind)]


def classes():
    """For each class its name, its methods, its properties, and the attributes that it assigns off self."""
    told = []
    for _, node in nodes(ast.ClassDef):
        defined = [part for part in node.body if isinstance(part, ast.FunctionDef)]
        properties = {part.name for part in defined
                      if any(isinstance(over, ast.Name) and over.id == "property" for over in part.decorator_list)}
        stored = {part.attr for part in ast.walk(node)
                  if isinstance(part, ast.Attribute) and isinstance(part.ctx, ast.Store)}
        told.append((node.name, {part.name for part in defined} - properties, properties, stored))
    return told


class TestLanguage(unittest.TestCase):
    def test_characters_and_sizes(self):
        self.assertGreater(len(files()), 1)
        for name, text in files():
            lines = text.split("\n")
            self.assertLessEqual(len(lines) - 1, 399, name)
            for number, line in enumerate(lines, 1):
                self.assertLessEqual(len(line), 120, (name, number))
                self.assertTrue(all(" " <= mark <= "~" for mark in line), (name, number))

    def test_functions(self):
        for name, text in files():
            for node in ast.walk(ast.parse(text)):
                if isinstance(node, ast.FunctionDef):
                    self.assertLessEqual(node.end_lineno - node.lineno + 1, 40, (name, node.name))

    def test_imports(self):
        for name, text in files():
            for node in ast.walk(ast.parse(text)):
                self.assertNotIsInstance(node, ast.Import, name)
                if isinstance(node, ast.ImportFrom):
                    self.assertTrue(node.module in LIBRARY or node.module.startswith("ringrows."), (name, node.lineno))

    def test_no_name_of_a_builtin_is_bound(self):
        for name, text in files():
            for node in ast.walk(ast.parse(text)):
                bound = [node.arg] if isinstance(node, ast.arg) else []
                if isinstance(node, ast.Name) and isinstance(node.ctx, ast.Store):
                    bound = [node.id]
                if isinstance(node, (ast.FunctionDef, ast.ClassDef)):
                    bound = [node.name]
                for told in bound:
                    # An example that was run leaves a builtin _ behind.
                    self.assertTrue(told.startswith("_") or not hasattr(builtins, told), (name, node.lineno, told))

    def test_all_any_and_the_like_take_lists(self):
        takers = ("any", "all", "min", "max", "sum", "sorted")
        for name, text in files():
            for node in ast.walk(ast.parse(text)):
                if isinstance(node, ast.Call) and isinstance(node.func, ast.Name) and node.func.id in takers:
                    for passed in node.args:
                        self.assertNotIsInstance(passed, ast.GeneratorExp, (name, node.lineno))

    def test_no_name_of_a_class_or_an_import_is_a_local_one(self):
        for name, text in files():
            tree = ast.parse(text)
            taken = {part.name for node in ast.walk(tree) if isinstance(node, ast.ImportFrom) for part in node.names}
            taken |= {node.name for node in ast.walk(tree) if isinstance(node, ast.ClassDef)}
            for node in ast.walk(tree):
                if isinstance(node, ast.arg):
                    self.assertNotIn(node.arg, taken, (name, node.lineno))
                if isinstance(node, ast.Name) and isinstance(node.ctx, ast.Store):
                    self.assertNotIn(node.id, taken, (name, node.lineno))

    def test_imports_name_the_file_that_defines(self):
        for name, node in nodes(ast.ImportFrom):
            if node.module.startswith("ringrows."):
                text = (PACKAGE / f"{node.module.removeprefix('ringrows.')}.py").read_text()
                body = ast.parse(text).body
                defined = [part.name for part in body if isinstance(part, (ast.FunctionDef, ast.ClassDef))]
                defined += [part.targets[0].id for part in body if isinstance(part, ast.Assign)]
                for part in node.names:
                    self.assertIn(part.name, defined, (name, node.lineno))

    def test_no_circle_of_imports(self):
        behind = {path.stem: set() for path in PACKAGE.rglob("*.py")}
        for name, node in nodes(ast.ImportFrom):
            if node.module.startswith("ringrows."):
                behind[name.removesuffix(".py")].add(node.module.removeprefix("ringrows."))
        while behind:
            free = [name for name, needed in behind.items() if not needed & set(behind)]
            self.assertNotEqual(free, [], behind)
            behind = {name: needed for name, needed in behind.items() if name not in free}

    def test_nothing_is_added_in_place(self):
        # A class has __iadd__, so += may not stand in what an operator or a property runs.
        self.assertEqual([(name, node.lineno) for name, node in nodes(ast.AugAssign)], [])

    def test_methods_of_builtin_values(self):
        own = {method for _, methods, _, _ in classes() for method in methods}
        for name, node in nodes(ast.Call):
            if isinstance(node.func, ast.Attribute):
                self.assertIn(node.func.attr, own | set(METHODS), (name, node.lineno))

    def test_methods_properties_and_attributes(self):
        methods = {name for _, told, _, _ in classes() for name in told}
        builtin = {name for kind in (str, int, list, dict, set, bytes, tuple) for name in dir(kind)}
        for name, told, properties, stored in classes():
            self.assertEqual(properties & (methods | builtin), set(), name)
            self.assertEqual(stored & (told | properties), set(), name)

    def test_an_assigned_name_is_no_property_without_a_setter(self):
        assigned = {node.attr for _, node in nodes(ast.Attribute) if isinstance(node.ctx, ast.Store)}
        self.assertIn("size", assigned)
        for name, node in nodes(ast.ClassDef):
            told, settable = set(), set()
            for part in node.body:
                for over in getattr(part, "decorator_list", []):
                    if isinstance(over, ast.Name) and over.id == "property":
                        told.add(part.name)
                    if isinstance(over, ast.Attribute) and over.attr == "setter":
                        settable.add(part.name)
            self.assertEqual(told & assigned - settable, set(), (name, node.name))

    def test_no_method_is_read_off_a_class(self):
        # Names that are attributes of one class and properties of another one would not be let then.
        kinds = {node.name for _, node in nodes(ast.ClassDef)}
        for name, node in nodes(ast.Attribute):
            self.assertFalse(isinstance(node.value, ast.Name) and node.value.id in kinds, (name, node.lineno))

    def test_words_that_do_not_occur(self):
        for name, text in files():
            for word in re.findall("[A-Za-z_]+", text):
                self.assertNotIn(word, WORDS, name)
            self.assertNotIn("(type)", text)
            self.assertNotIn("Meta", text)
        for name, node in nodes((ast.Name, ast.arg, ast.FunctionDef)):
            told = {ast.Name: "id", ast.arg: "arg", ast.FunctionDef: "name"}[node.__class__]
            self.assertNotIn(getattr(node, told), NAMES, (name, node.lineno))
        for name, node in nodes(ast.Constant):
            if isinstance(node.value, str):
                self.assertNotIn("%", node.value, (name, node.lineno))

    def test_values(self):
        for kind in (ast.Set, ast.SetComp, ast.Div, ast.Global, ast.AnnAssign, ast.GeneratorExp, ast.NamedExpr):
            self.assertEqual([(name, node.lineno) for name, node in nodes(kind)], [], kind)
        zipped = [(name, part.lineno, part.col_offset) for name, node in nodes(ast.Call)
                  if isinstance(node.func, ast.Name) and node.func.id == "zip" for part in node.args]
        for name, node in nodes(ast.Starred):
            self.assertIn((name, node.lineno, node.col_offset), zipped)
        for name, node in nodes(ast.BinOp):
            if isinstance(node.op, ast.Pow):
                self.assertIsInstance(node.right, ast.Constant, (name, node.lineno))

    def test_own_errors_alone_are_caught(self):
        for name, node in nodes(ast.Try):
            self.assertEqual((node.finalbody, node.orelse), ([], []), (name, node.lineno))
            for handler in node.handlers:
                told = handler.type.elts if isinstance(handler.type, ast.Tuple) else [handler.type]
                for kind in told:
                    self.assertIs(getattr(errors, kind.id).__module__, errors.__name__, (name, node.lineno))

    def test_modules_hold_plain_values(self):
        for name, text in files():
            for node in ast.parse(text).body:
                if isinstance(node, ast.Assign):
                    self.assertEqual(len(node.targets), 1, (name, node.lineno))
                    self.assertFalse(any(isinstance(part, ast.Call) for part in ast.walk(node)), (name, node.lineno))
                else:
                    kinds = (ast.Expr, ast.ImportFrom, ast.FunctionDef, ast.ClassDef)
                    self.assertIsInstance(node, kinds, (name, node.lineno))


if __name__ == "__main__":
    unittest.main()
