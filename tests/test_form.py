"""What of ../shared/LANGUAGE.md can be seen by plain looks at the files of the package."""

import ast
import builtins
import re
import unittest
from pathlib import Path

PACKAGE = Path(__file__).resolve().parent.parent / "paystreams"
LIBRARY = {
    "heapq": {"heappush", "heappop", "heapify", "heapreplace", "heappushpop"},
    "math": {"gcd", "lcm", "isqrt", "comb", "perm", "factorial"},
    "itertools": {"product", "combinations", "permutations"},
}
BUILTINS = set(
    "len range enumerate zip min max sum abs sorted reversed int str bool bytes list tuple dict set isinstance ord repr "
    "any all divmod iter next map Exception ValueError TypeError KeyError IndexError LookupError ZeroDivisionError "
    "ArithmeticError OverflowError RuntimeError NotImplementedError AttributeError StopIteration NotImplemented "
    "property staticmethod classmethod super".split()
)
STATEMENTS = (
    ast.FunctionDef, ast.ClassDef, ast.Assign, ast.AugAssign, ast.AnnAssign, ast.If, ast.While, ast.For, ast.Return,
    ast.Break, ast.Continue, ast.Pass, ast.Raise, ast.Assert, ast.Delete, ast.Nonlocal, ast.Match, ast.With, ast.Try,
    ast.Expr, ast.ImportFrom,
)


def files():
    return sorted(PACKAGE.glob("*.py"))


def trees():
    return [(path, ast.parse(path.read_text("utf-8"))) for path in files()]


def nodes(*kinds):
    """All nodes of these kinds, each with a place to show."""
    return [(f"{path.name}:{getattr(node, 'lineno', 0)}", node)
            for path, tree in trees() for node in ast.walk(tree) if isinstance(node, kinds)]


def defined_in(module):
    """The names that a file itself defines at its module level."""
    body = ast.parse((PACKAGE / f"{module}.py").read_text("utf-8")).body
    named = {part.name for part in body if isinstance(part, (ast.FunctionDef, ast.ClassDef))}
    return named | {target.id for part in body if isinstance(part, ast.Assign) for target in part.targets}


class FormTest(unittest.TestCase):
    def test_files(self):
        names = [path.name for path in PACKAGE.iterdir() if path.name != "__pycache__"]
        self.assertIn("__init__.py", names)
        for name in names:
            self.assertRegex(name, r"^(__init__|__main__|[a-z][a-z0-9_]*)\.py$")

    def test_lines(self):
        for path in files():
            text = path.read_text("utf-8")
            self.assertRegex(text, r"^[ -~\n]*$", path.name)
            lines = text.split("\n")
            self.assertLessEqual(len(lines) - 1, 399, path.name)
            for line in lines:
                self.assertLessEqual(len(line), 120, path.name)

    def test_functions_are_short(self):
        for place, node in nodes(ast.FunctionDef):
            self.assertLessEqual(node.end_lineno - node.lineno + 1, 40, place)

    def test_imports(self):
        for place, node in nodes(ast.Import):
            self.fail(place)
        for place, node in nodes(ast.ImportFrom):
            names = {alias.name for alias in node.names}
            self.assertEqual(node.level, 0, place)
            if node.module in LIBRARY:
                self.assertLessEqual(names, LIBRARY[node.module], place)
            else:
                self.assertTrue(node.module.startswith("paystreams."), place)
                self.assertLessEqual(names, defined_in(node.module.split(".")[1]), place)

    def test_statements(self):
        for place, node in nodes(ast.stmt):
            self.assertIsInstance(node, STATEMENTS, place)

    def test_builtins(self):
        known = set(dir(builtins))
        for place, node in nodes(ast.Name):
            if node.id in known:
                self.assertIn(node.id, BUILTINS, place)
                self.assertIsInstance(node.ctx, ast.Load, place)
        for place, node in nodes(ast.arg):
            self.assertNotIn(node.arg, known, place)
        for place, node in nodes(ast.FunctionDef):
            self.assertFalse(node.name in known and "self" not in [part.arg for part in node.args.args[:1]], place)

    def test_numbers_and_strings(self):
        for place, node in nodes(ast.Constant):
            self.assertNotIsInstance(node.value, (float, complex), place)
            if isinstance(node.value, str):
                self.assertNotIn("%", node.value, place)
        for place, node in nodes(ast.BinOp, ast.AugAssign):
            self.assertNotIsInstance(node.op, (ast.Div, ast.MatMult), place)
            if isinstance(node.op, ast.Pow):
                self.assertIsInstance(node.right, ast.Constant, place)
                self.assertIn(node.right.value, range(65), place)

    def test_only_plain_strings_and_numbers_are_sorted(self):
        for place, node in nodes(ast.Call):
            if isinstance(node.func, ast.Name) and node.func.id in ("sorted", "min", "max"):
                self.assertRegex(ast.unparse(node.args[0]), r"^\[(str|int|len)\(", place)
        for place, node in nodes(ast.Attribute):
            self.assertNotEqual(node.attr, "sort", place)

    def test_no_local_name_is_that_of_a_class_or_an_import_of_its_file(self):
        for path, tree in trees():
            taken = {alias.name for node in tree.body if isinstance(node, ast.ImportFrom) for alias in node.names}
            taken |= {node.name for node in tree.body if isinstance(node, ast.ClassDef)}
            for node in ast.walk(tree):
                if isinstance(node, ast.arg):
                    self.assertNotIn(node.arg, taken, path.name)
                if isinstance(node, ast.Name) and isinstance(node.ctx, ast.Store):
                    self.assertNotIn(node.id, taken, path.name)

    def test_no_name_is_both_a_method_and_an_attribute(self):
        methods = {part.name for _, node in nodes(ast.ClassDef) for part in node.body if isinstance(part, ast.FunctionDef)}
        for place, node in nodes(ast.Attribute):
            if isinstance(node.ctx, ast.Store):
                self.assertNotIn(node.attr, methods, place)

    def test_decorators(self):
        for place, node in nodes(ast.ClassDef, ast.FunctionDef):
            for decorator in node.decorator_list:
                self.assertRegex(ast.unparse(decorator), r"^(property|staticmethod|classmethod|\w+\.setter)$", place)

    def test_equality_assigns_nothing(self):
        for place, node in nodes(ast.FunctionDef):
            if node.name in ("__eq__", "__len__"):
                for part in ast.walk(node):
                    self.assertNotIsInstance(part, (ast.Assign, ast.AugAssign, ast.AnnAssign, ast.Delete), place)

    def test_names(self):
        for place, node in nodes(ast.Name, ast.arg, ast.FunctionDef, ast.ClassDef, ast.Attribute):
            name = [getattr(node, field) for field in ("id", "arg", "name", "attr") if hasattr(node, field)][0]
            if not isinstance(node, ast.FunctionDef) or not re.fullmatch(r"__[a-z]+__", name):
                if name != "__init__":
                    self.assertRegex(name, r"^(_|_?[A-Za-z]\w*)$", place)


if __name__ == "__main__":
    unittest.main()
