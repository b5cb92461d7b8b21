"""The rules of the program's language that are easy to check: sizes, characters, imports, names and statements."""

import ast
import builtins
import re
import unittest
from pathlib import Path

PACKAGE = Path(__file__).resolve().parent.parent / "fourcords"
FILES = sorted(path for path in PACKAGE.rglob("*") if "__pycache__" not in path.parts)
BUILTINS = """len range enumerate zip min max sum abs sorted reversed int str bool list tuple dict set isinstance ord
    repr any all divmod pow iter next ValueError TypeError classmethod staticmethod property""".split()
METHODS = """__init__ __eq__ __repr__ __str__ __len__ __enter__ __exit__ __call__ __iter__ __lt__ __le__ __gt__ __ge__
    __ne__ __add__ __sub__ __mul__ __neg__ __bool__ __contains__""".split()
BARRED = """mro elements open input law version_info with_traceback add_note register type typing enum Enum Flag
    Generic Protocol ABC namedtuple NamedTuple TypedDict abstractmethod dataclass overload contextmanager""".split()
STATEMENTS = (ast.Assign, ast.AugAssign, ast.If, ast.While, ast.For, ast.Return, ast.Break, ast.Continue, ast.Pass,
              ast.Raise, ast.Assert, ast.Delete, ast.Expr, ast.FunctionDef, ast.ClassDef, ast.ImportFrom, ast.Try,
              ast.Nonlocal, ast.Match, ast.With)
BARRED_NODES = (ast.Div, ast.Await, ast.AsyncFunctionDef, ast.AsyncFor, ast.AsyncWith)


def trees():
    for path in FILES:
        yield path, ast.parse(path.read_text(encoding="ascii"))


def bound_names(tree):
    for node in ast.walk(tree):
        if isinstance(node, ast.Name) and isinstance(node.ctx, ast.Store):
            yield node.id
        elif isinstance(node, ast.arg):
            yield node.arg
        elif isinstance(node, (ast.FunctionDef, ast.ClassDef)):
            yield node.name


class Language(unittest.TestCase):
    def test_files_and_characters(self):
        self.assertLessEqual(len(FILES), 100)
        for path in FILES:
            with self.subTest(path.name):
                self.assertRegex(path.name, r"^[a-z_0-9]+\.py$")
                text = path.read_text(encoding="ascii")
                self.assertTrue(all(c == "\n" or " " <= c <= "~" for c in text))
                lines = text.splitlines()
                self.assertLessEqual(len(lines), 399)
                self.assertLessEqual(max(map(len, lines)), 120)

    def test_functions_are_short(self):
        for path, tree in trees():
            for node in ast.walk(tree):
                if isinstance(node, ast.FunctionDef):
                    self.assertLessEqual(node.end_lineno - node.lineno + 1, 40, f"{path.name} {node.name}")

    def test_imports(self):
        reached = {}
        for path, tree in trees():
            reached[path.stem] = []
            for node in tree.body:
                if isinstance(node, ast.ImportFrom):
                    self.assertEqual(node.level, 0)
                    if node.module == "math":
                        self.assertTrue(all(name.name in ("gcd", "lcm", "isqrt", "comb") for name in node.names))
                        continue
                    package, _, stem = node.module.partition(".")
                    self.assertEqual(package, "fourcords")
                    reached[path.stem].append(stem)
                    defined = ast.parse((PACKAGE / f"{stem}.py").read_text()).body
                    names = [part.name for part in defined if isinstance(part, (ast.FunctionDef, ast.ClassDef))]
                    for name in node.names:
                        self.assertIn(name.name, names)
                        self.assertIsNone(name.asname)
        for stem in reached:
            behind, found = list(reached[stem]), []
            while behind:
                found.append(behind.pop())
                behind += [one for one in reached[found[-1]] if one not in found]
            self.assertNotIn(stem, found)

    def test_names(self):
        for path, tree in trees():
            outside = [name.name for node in tree.body if isinstance(node, ast.ImportFrom) for name in node.names]
            outside += [node.name for node in tree.body if isinstance(node, ast.ClassDef)]
            for name in bound_names(tree):
                if name.startswith("__"):
                    self.assertIn(name, METHODS)
                elif name != "_":
                    self.assertFalse(hasattr(builtins, name), f"{path.name} {name}")
                self.assertNotIn(name, BARRED)
            for node in ast.walk(tree):
                if isinstance(node, ast.FunctionDef):
                    inner = [arg.arg for arg in node.args.args + node.args.kwonlyargs]
                    inner += [n.id for n in ast.walk(node) if isinstance(n, ast.Name) and isinstance(n.ctx, ast.Store)]
                    self.assertEqual([name for name in inner if name in outside], [], f"{path.name} {node.name}")
                if isinstance(node, ast.Name) and node.id != "_" and hasattr(builtins, node.id):
                    self.assertIn(node.id, BUILTINS, path.name)
                if isinstance(node, ast.Name) and isinstance(node.ctx, ast.Load):
                    self.assertNotEqual(node.id, "_")
            words = re.findall(r"\w+", re.sub(r'""".*?"""|#.*', "", path.read_text(), flags=re.S))
            self.assertEqual([word for word in words if word in BARRED], [], path.name)

    def test_statements_and_expressions(self):
        for path, tree in trees():
            for node in ast.walk(tree):
                where = f"{path.name} line {getattr(node, 'lineno', 0)}"
                if isinstance(node, ast.stmt):
                    self.assertIsInstance(node, STATEMENTS, where)
                self.assertNotIsInstance(node, BARRED_NODES, where)
                if isinstance(node, ast.Constant):
                    self.assertNotIsInstance(node.value, (float, complex), where)
                    self.assertNotIn("%", str(node.value) if isinstance(node.value, str) else "", where)
                # A class has __eq__ and a number is no exponent but a literal: lists and loops do instead.
                self.assertNotIsInstance(node, ast.GeneratorExp, where)
                if isinstance(node, ast.BinOp) and isinstance(node.op, ast.Pow):
                    self.assertIsInstance(node.right, ast.Constant, where)
                if isinstance(node, ast.FunctionDef):
                    for decorator in node.decorator_list:
                        self.assertIn(decorator.id, ("classmethod", "staticmethod", "property"))
            for node in tree.body:
                self.assertIsInstance(node, (ast.Expr, ast.ImportFrom, ast.FunctionDef, ast.ClassDef), path.name)


if __name__ == "__main__":
    unittest.main()
