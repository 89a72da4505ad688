"""The rules of the language subset about what operators and properties run, as far as a test can see them.

An operator, a property, and each of `__eq__`, `__len__`, `__str__` and `__repr__` is followed through all that it
calls. Names are taken as they stand: a call `x.told(..)` may be one of each method of the package called `told`.
"""

import ast
import pathlib
import unittest

PACKAGE = pathlib.Path(__file__).resolve().parent.parent / "forbidmoves"
# What an operator does not call by its name, or may change anything.
NOT_OPERATORS = ("__init__", "__call__", "__iter__", "__enter__", "__exit__")
MODIFYING = ("append", "clear", "extend", "insert", "pop", "remove", "reverse", "setdefault", "update", "sort", "add",
             "discard")
BUILTINS = ("len range enumerate zip min max sum abs sorted reversed int str bool list tuple dict isinstance ord repr any "
            "all divmod super").split()


def package_trees():
    return [ast.parse(path.read_text()) for path in sorted(PACKAGE.rglob("*.py"))]


def nodes_of(trees, kind):
    return [node for tree in trees for node in ast.walk(tree) if isinstance(node, kind)]


def stored_attributes(trees):
    """Return the names of the attributes that the package assigns."""
    return {node.attr for node in nodes_of(trees, ast.Attribute) if isinstance(node.ctx, ast.Store)}


def functions_by_name(trees):
    """Return a dict from names to the functions and methods of that name; a class stands for its `__init__`."""
    found = {}
    for node in nodes_of(trees, ast.FunctionDef):
        found.setdefault(node.name, []).append(node)
    for node in nodes_of(trees, ast.ClassDef):
        found.setdefault(node.name, []).extend(part for part in node.body if is_called(part, "__init__"))
    return found


def is_called(node, name):
    return isinstance(node, ast.FunctionDef) and node.name == name


def is_operator(node):
    """Tell whether a method is an operator, a property, or one of those that the rules count with them."""
    if any(ast.unparse(decorator) == "property" for decorator in node.decorator_list):
        return True
    return node.name.startswith("__") and node.name not in NOT_OPERATORS


def calls_of(function):
    return [node for node in ast.walk(function) if isinstance(node, ast.Call)]


def called_name(call):
    """Return the name that is called, be it that of a function or a method, or None."""
    if isinstance(call.func, ast.Name):
        return call.func.id
    return call.func.attr if isinstance(call.func, ast.Attribute) else None


def run_by_operators(trees):
    """List the functions and methods that an operator or a property comes to."""
    by_name = functions_by_name(trees)
    found = [method for owner in nodes_of(trees, ast.ClassDef) for method in owner.body
             if isinstance(method, ast.FunctionDef) and is_operator(method)]
    for function in found:
        for call in calls_of(function):
            found.extend(other for other in by_name.get(called_name(call), []) if other not in found)
    return found


def calls_of_attributes(trees):
    """List the calls of methods whose names are those of attributes, in what operators run."""
    stored = stored_attributes(trees)
    return [ast.unparse(call) for function in run_by_operators(trees) for call in calls_of(function)
            if isinstance(call.func, ast.Attribute) and call.func.attr in stored]


def local_names(function):
    return {node.id for node in ast.walk(function) if isinstance(node, ast.Name) and isinstance(node.ctx, ast.Store)}


def calls_of_what_is_passed(trees):
    """List the calls in what operators run that are not of functions, classes, methods or builtins."""
    known = [*functions_by_name(trees), *[node.name for node in nodes_of(trees, ast.ClassDef)], *BUILTINS]
    wrong = []
    for function in run_by_operators(trees):
        own = local_names(function) | {node.arg for node in ast.walk(function) if isinstance(node, ast.arg)}
        for call in calls_of(function):
            if isinstance(call.func, ast.Name) and (call.func.id not in known or call.func.id in own):
                wrong.append(ast.unparse(call))
            elif not isinstance(call.func, (ast.Name, ast.Attribute)):
                wrong.append(ast.unparse(call))
    return wrong


def lists_and_dicts_made(function):
    """Return the names to which a function assigns nothing but lists and dicts that it creates."""
    made, other = set(), set()
    for node in ast.walk(function):
        if isinstance(node, ast.Assign) and len(node.targets) == 1 and isinstance(node.targets[0], ast.Name):
            fresh = isinstance(node.value, (ast.List, ast.Dict, ast.ListComp)) or (
                isinstance(node.value, ast.Call) and called_name(node.value) in ("list", "dict", "sorted"))
            (made if fresh else other).add(node.targets[0].id)
    return made - other


def changes(trees):
    """List what operators run that changes more than what was created on the spot."""
    wrong = []
    for function in run_by_operators(trees):
        made = lists_and_dicts_made(function)
        for node in ast.walk(function):
            if isinstance(node, ast.Attribute) and isinstance(node.ctx, (ast.Store, ast.Del)):
                if function.name != "__init__":
                    wrong.append(ast.unparse(node))
            elif isinstance(node, ast.Subscript) and isinstance(node.ctx, (ast.Store, ast.Del)):
                if not isinstance(node.value, ast.Name) or node.value.id not in made:
                    wrong.append(ast.unparse(node))
            elif isinstance(node, ast.Call) and isinstance(node.func, ast.Attribute) and node.func.attr in MODIFYING:
                if not isinstance(node.func.value, ast.Name) or node.func.value.id not in made:
                    wrong.append(ast.unparse(node))
    return wrong


class Package(unittest.TestCase):
    def test_operators_and_properties_are_found(self):
        names = {function.name for function in run_by_operators(package_trees())}
        for name in ["__eq__", "__len__", "__bool__", "__contains__", "__getitem__", "__sub__", "__neg__", "owner", "names",
                     "winner", "check_set", "steps_from", "are_prices"]:
            self.assertIn(name, names)
        for name in ["__call__", "shows", "undo"]:
            self.assertNotIn(name, names)

    def test_attributes_are_found(self):
        stored = stored_attributes(package_trees())
        for name in ["index", "part", "row", "_steps", "forbidden", "ranks", "traps"]:
            self.assertIn(name, stored)

    def test_no_method_with_the_name_of_an_attribute_is_called(self):
        self.assertEqual(calls_of_attributes(package_trees()), [])

    def test_nothing_that_is_passed_or_held_is_called(self):
        self.assertEqual(calls_of_what_is_passed(package_trees()), [])

    def test_nothing_is_changed(self):
        self.assertEqual(changes(package_trees()), [])

    def test_no_name_is_a_method_and_an_attribute(self):
        methods = {part.name for owner in nodes_of(package_trees(), ast.ClassDef) for part in owner.body
                   if isinstance(part, ast.FunctionDef)}
        self.assertEqual(methods & stored_attributes(package_trees()), set())


class Looking(unittest.TestCase):
    """That these tests see what they look for."""

    FAULT = """
class Wrong(ValueError):
    def __init__(self, index):
        self.index = index

class Board:
    def __sub__(self, other):
        check(self, other)
        return self

def check(board, value):
    look(board.moves, value)

def look(priced, value):
    for move in value:
        priced.index(move)
"""

    def test_a_call_at_the_end_of_several(self):
        self.assertEqual(calls_of_attributes([ast.parse(self.FAULT)]), ["priced.index(move)"])

    def test_over_several_files(self):
        first, second = self.FAULT.split("\ndef look")
        self.assertEqual(calls_of_attributes([ast.parse(first), ast.parse("def look" + second)]), ["priced.index(move)"])

    def test_what_no_operator_runs(self):
        self.assertEqual(calls_of_attributes([ast.parse(self.FAULT.replace("__sub__", "minus"))]), [])

    def test_names_that_are_no_attributes(self):
        self.assertEqual(calls_of_attributes([ast.parse(self.FAULT.replace("self.index = index", "pass"))]), [])

    def test_roots(self):
        for method in ["def __eq__(self, other)", "def __len__(self)", "def __str__(self)", "def __repr__(self)",
                       "@property\n    def told(self)", "def __bool__(self)", "def __getitem__(self, at)"]:
            text = f"class Box:\n    {method}:\n        return self.rows.count(1)\n\ndef make(box):\n    box.count = 1\n"
            self.assertEqual(calls_of_attributes([ast.parse(text)]), ["self.rows.count(1)"])

    def test_methods_and_classes_that_are_called(self):
        text = """
class Box:
    def __init__(self, rows):
        self.many = rows.count(1)
        self.count = 0

    def told(self):
        return Box([])

    def __neg__(self):
        return self.told()
"""
        self.assertEqual(calls_of_attributes([ast.parse(text)]), ["rows.count(1)"])

    def test_calls_of_what_is_passed(self):
        text = "class Box:\n    def __add__(self, other):\n        return step(other)\n\ndef step(move):\n    return move()\n"
        self.assertEqual(calls_of_what_is_passed([ast.parse(text)]), ["move()"])
        text = "class Box:\n    def __add__(self, other):\n        return self.steps[0](other)\n"
        self.assertEqual(calls_of_what_is_passed([ast.parse(text)]), ["self.steps[0](other)"])

    def test_changes(self):
        for row in ["self.many = 1", "self.rows[0] = 1", "self.rows.append(1)", "other.append(1)", "other[0] = 1"]:
            text = f"class Box:\n    def __add__(self, other):\n        {row}\n"
            self.assertEqual(len(changes([ast.parse(text)])), 1, row)
        text = "class Box:\n    def __add__(self, other):\n        rows = []\n        rows.append(1)\n        return rows\n"
        self.assertEqual(changes([ast.parse(text)]), [])


if __name__ == "__main__":
    unittest.main()
