"""Rules of the language subset that a test can see: sizes, characters, imports, names and kinds of statements."""

import ast
import pathlib
import re
import unittest

PACKAGE = pathlib.Path(__file__).resolve().parent.parent / "forbidmoves"
FILES = sorted(path for path in PACKAGE.rglob("*") if "__pycache__" not in path.parts)
BUILTINS = set(dir(__builtins__) if not isinstance(__builtins__, dict) else __builtins__)
ALLOWED = set("""len range enumerate zip min max sum abs sorted reversed int str bool bytes list tuple dict set frozenset
    isinstance ord repr any all divmod iter next super property classmethod staticmethod map NotImplemented
    Exception ValueError TypeError KeyError IndexError LookupError ZeroDivisionError ArithmeticError OverflowError
    RuntimeError NotImplementedError AttributeError StopIteration""".split())
BARRED_WORDS = re.compile(r"\b(type|typing|typing_extensions|enum|Enum|IntEnum|StrEnum|Flag|IntFlag|Generic|Protocol|ABC"
                          r"|ABCMeta|namedtuple|NamedTuple|TypedDict|TYPE_CHECKING|abstractmethod|Meta)\b"
                          r"|dataclass|overload|contextmanager|metaclass=|_wall")
LIBRARY = {"heapq", "math", "itertools", "__future__"}
STATEMENTS = (ast.Global, ast.AsyncFunctionDef, ast.AsyncFor, ast.AsyncWith, ast.Await, ast.Import, ast.Div)


def trees():
    return [(path, ast.parse(path.read_text())) for path in FILES if path.suffix == ".py"]


def code_alone(tree):
    """Return the code of a file without its comments and docstrings."""
    for node in ast.walk(tree):
        if isinstance(node, (ast.Module, ast.ClassDef, ast.FunctionDef)) and ast.get_docstring(node) is not None:
            node.body[0] = ast.Pass()
    return ast.unparse(tree)


class Language(unittest.TestCase):
    def nodes(self):
        return [(path.name, node) for path, tree in trees() for node in ast.walk(tree)]

    def test_the_package_holds_only_files_with_plain_names(self):
        for path in FILES:
            self.assertRegex(path.name, r"\A([a-z][a-z0-9_]*|__init__|__main__)\.py\Z")
        self.assertIn(PACKAGE / "__init__.py", FILES)

    def test_characters_and_sizes(self):
        for path in FILES:
            text = path.read_text(encoding="utf-8")
            self.assertRegex(text, r"\A[ -~\n]*\Z", path)
            self.assertLessEqual(len(text.split("\n")), 399, path)
            self.assertLessEqual(max(len(line) for line in text.split("\n")), 120, path)

    def test_functions_are_short(self):
        for name, node in self.nodes():
            if isinstance(node, ast.FunctionDef):
                self.assertLessEqual(node.end_lineno - node.lineno + 1, 40, (name, node.name))

    def test_imports(self):
        for name, node in self.nodes():
            if isinstance(node, ast.ImportFrom):
                self.assertEqual(node.level, 0, name)
                self.assertTrue(node.module in LIBRARY or node.module.startswith("forbidmoves."), (name, node.module))
                self.assertNotIn("*", [alias.name for alias in node.names])

    def test_barred_statements_words_and_numbers(self):
        for path, tree in trees():
            self.assertIsNone(BARRED_WORDS.search(code_alone(tree)), path)
        for name, node in self.nodes():
            self.assertNotIsInstance(node, STATEMENTS, name)
            if isinstance(node, ast.Constant):
                self.assertNotIsInstance(node.value, (float, complex), name)
                self.assertNotIn("%", str(node.value), name)

    def test_builtins(self):
        for name, node in self.nodes():
            if isinstance(node, ast.Name) and node.id in BUILTINS:
                self.assertIn(node.id, ALLOWED, name)

    def test_decorators(self):
        for name, node in self.nodes():
            if isinstance(node, (ast.FunctionDef, ast.ClassDef)):
                for decorator in node.decorator_list:
                    self.assertRegex(ast.unparse(decorator), r"\A(property|staticmethod|classmethod|\w+\.setter)\Z", name)

    def test_is_only_with_none_true_and_false(self):
        for name, node in self.nodes():
            if isinstance(node, ast.Compare):
                for sign, right in zip(node.ops, node.comparators):
                    if isinstance(sign, (ast.Is, ast.IsNot)):
                        self.assertIsInstance(right, ast.Constant, name)


if __name__ == "__main__":
    unittest.main()
