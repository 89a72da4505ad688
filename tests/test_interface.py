"""That everything that the interface lists exists under its name, where it is listed, with its arguments."""

import ast
import importlib
import inspect
import pathlib
import unittest

from forbidmoves.boards import Board, Field
from forbidmoves.errors import BadBoard, BadPlay, BadText, MoveError
from forbidmoves.forbidding import cheapest
from forbidmoves.games import Game
from forbidmoves.texts import read_board
from tests.helper import example, lost

PACKAGE = pathlib.Path(__file__).resolve().parent.parent / "forbidmoves"
FUNCTIONS = {
    "winning": {"distances": "(board, forbidden)", "is_winning": "(board, forbidden)",
                "are_ranks": "(board, forbidden, ranks)", "is_trap": "(board, trap)",
                "holds": "(board, forbidden, trap)", "trap": "(board, forbidden)"},
    "forbidding": {"winning_sets": "(board)", "breaches": "(board)", "rescues": "(board)",
                   "set_cost": "(board, forbidden)", "cheapest": "(board)"},
    "needs": {"needless": "(board, forbidden)", "needed": "(board)"},
    "texts": {"board_text": "(board)", "read_board": "(text)"},
}
CLASSES = {
    "boards": {"Field": "(owner, *targets, goal=False)", "Board": "(fields, start, prices)"},
    "forbidding": {"Forbidding": "(forbidden, ranks, traps)", "NoForbidding": "(traps)"},
    "games": {"Game": "(board, forbidden=())"},
}
METHODS = {
    ("boards", "Field"): ["owner", "targets", "goal", "__init__", "__contains__", "__len__", "__neg__", "__eq__"],
    ("boards", "Board"): ["names", "start", "moves", "price", "__init__", "__getitem__", "__contains__", "__len__",
                          "__sub__", "__call__", "__eq__"],
    ("forbidding", "Forbidding"): ["shows", "__init__", "__eq__"],
    ("forbidding", "NoForbidding"): ["shows", "__init__", "__eq__"],
    ("games", "Game"): ["path", "spot", "winner", "move", "undo", "good", "after", "__init__", "__contains__", "__len__",
                        "__bool__"],
}
ERRORS = ["BadField", "BadBoard", "BadName", "BadSet", "BadPlay", "BadRanks", "BadTrap", "NoMove", "NothingMoved",
          "NotWinning", "BadText"]


def defined(file):
    """Return a dict from the names that a file defines at module level to their nodes."""
    tree = ast.parse((PACKAGE / f"{file}.py").read_text())
    return {node.name: node for node in tree.body if isinstance(node, (ast.FunctionDef, ast.ClassDef))}


class Names(unittest.TestCase):
    def test_functions(self):
        for file, functions in FUNCTIONS.items():
            module = importlib.import_module(f"forbidmoves.{file}")
            for name, signature in functions.items():
                self.assertIsInstance(defined(file)[name], ast.FunctionDef)
                self.assertEqual(str(inspect.signature(getattr(module, name))), signature)

    def test_classes(self):
        for file, classes in CLASSES.items():
            module = importlib.import_module(f"forbidmoves.{file}")
            for name, signature in classes.items():
                self.assertIsInstance(defined(file)[name], ast.ClassDef)
                self.assertEqual(str(inspect.signature(getattr(module, name))), signature)

    def test_methods_stand_in_their_classes(self):
        for (file, name), methods in METHODS.items():
            body = [part.name for part in defined(file)[name].body if isinstance(part, ast.FunctionDef)]
            self.assertLessEqual(set(methods), set(body), name)

    def test_signatures_of_methods(self):
        signatures = {Board.price: "(self, move)", Board.__call__: "(self, play, forbidden=())",
                      Game.move: "(self, name)", Game.undo: "(self)", Game.good: "(self)",
                      Game.after: "(board, play, forbidden=())"}
        for method, signature in signatures.items():
            self.assertEqual(str(inspect.signature(method)), signature)

    def test_errors(self):
        self.assertEqual(sorted(defined("errors")), sorted(["MoveError", *ERRORS]))
        module = importlib.import_module("forbidmoves.errors")
        for name in ERRORS:
            self.assertEqual(getattr(module, name).__bases__, (MoveError,))
        self.assertEqual(MoveError.__bases__, (ValueError,))

    def test_attributes_are_set_when_an_object_is_created(self):
        self.assertLessEqual({"forbidden", "ranks", "traps"}, set(vars(cheapest(example()))))
        self.assertIn("traps", vars(cheapest(lost())))
        for call, error, name in [(lambda: Board({}, "a", {}), BadBoard, "part"), (lambda: example()(()), BadPlay, "index"),
                                  (lambda: read_board(""), BadText, "row")]:
            with self.assertRaises(error) as caught:
                call()
            self.assertIn(name, vars(caught.exception))

    def test_fields_are_made_by_position_and_by_keyword(self):
        self.assertTrue(Field(owner=2) == Field(2))
        self.assertTrue(Board(fields={"a": Field(1)}, start="a", prices={}) == Board({"a": Field(1)}, "a", {}))


if __name__ == "__main__":
    unittest.main()
