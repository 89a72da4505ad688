"""The errors of the interface."""

import unittest

from forbidmoves import errors
from forbidmoves.boards import Board, Field

NAMES = ["BadField", "BadBoard", "BadName", "BadSet", "BadPlay", "BadRanks", "BadTrap", "NoMove", "NothingMoved",
         "NotWinning", "BadText"]


def some_object(error):
    """Create an error; which values its class takes is free."""
    for values in [(), (0,), ("", 0)]:
        try:
            return error(*values)
        except TypeError:
            continue
    raise AssertionError(f"{error} cannot be created")


class Errors(unittest.TestCase):
    def test_the_common_class_is_a_value_error(self):
        self.assertEqual(errors.MoveError.__bases__, (ValueError,))

    def test_all_others_are_direct_subclasses(self):
        for name in NAMES:
            with self.subTest(name):
                self.assertEqual(getattr(errors, name).__bases__, (errors.MoveError,))

    def test_they_are_defined_in_this_file(self):
        for name in [*NAMES, "MoveError"]:
            self.assertEqual(getattr(errors, name).__module__, "forbidmoves.errors")

    def test_each_is_a_class_of_its_own(self):
        self.assertEqual(len({getattr(errors, name) for name in NAMES}), len(NAMES))

    def test_each_object_has_the_attribute_of_its_class(self):
        for name, attribute in [("BadBoard", "part"), ("BadPlay", "index"), ("BadText", "row")]:
            self.assertTrue(hasattr(some_object(getattr(errors, name)), attribute))

    def test_errors_keep_their_own_attributes(self):
        board = Board({"a": Field(1, "b"), "b": Field(2)}, "a", {})
        found = []
        for play in [5, (), ("a", "a"), ("a", "b", "a")]:
            with self.assertRaises(errors.BadPlay) as caught:
                board(play)
            found.append(caught.exception)
        self.assertEqual([error.index for error in found], [None, 0, 1, 2])


if __name__ == "__main__":
    unittest.main()
