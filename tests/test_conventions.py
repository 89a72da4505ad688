"""Point 1: what is neither modified nor kept, and what is new each time."""

import copy
import unittest

from forbidmoves.boards import Board, Field
from forbidmoves.errors import BadBoard, BadField, BadName, BadPlay, BadRanks, BadSet, BadTrap
from forbidmoves.winning import are_ranks, distances, holds, is_trap, is_winning, trap
from tests.helper import example, made, sets_of, some_boards


def raw_parts():
    fields = {"a": Field(1, "b"), "b": Field(2, "a", "c"), "c": Field(1, goal=True)}
    return fields, {("b", "a"): 2, ("a", "b"): 1}


class Arguments(unittest.TestCase):
    def test_a_board_does_not_keep_its_fields(self):
        fields, prices = raw_parts()
        board = Board(fields, "a", prices)
        fields["a"] = Field(2, "c")
        fields["d"] = Field(1)
        del fields["c"]
        self.assertEqual(board, example())
        self.assertEqual(board.names, ["a", "b", "c"])
        self.assertEqual(board["a"], Field(1, "b"))
        self.assertEqual(distances(board, (("b", "a"),)), {"a": 2, "b": 1, "c": 0})

    def test_a_board_does_not_keep_its_prices(self):
        fields, prices = raw_parts()
        board = Board(fields, "a", prices)
        prices[("b", "a")] = 9
        prices[("b", "c")] = 1
        del prices[("a", "b")]
        self.assertEqual(board, example())
        self.assertEqual(board.moves, [("b", "a"), ("a", "b")])
        self.assertEqual(board.price(("b", "a")), 2)

    def test_a_board_does_not_modify_what_it_is_made_of(self):
        fields, prices = raw_parts()
        Board(fields, "a", prices)
        self.assertEqual(list(fields.items()), list(raw_parts()[0].items()))
        self.assertEqual(list(prices.items()), list(raw_parts()[1].items()))

    def test_the_targets_of_a_field_are_not_kept(self):
        targets = ["a", "b"]
        field = Field(1, *targets)
        targets.reverse()
        targets.append("c")
        self.assertEqual(field.targets, ("a", "b"))

    def test_dicts_that_are_asked_about_are_not_modified(self):
        board = example()
        ranks = {"c": 0, "b": 5, "a": 7}
        are_ranks(board, (("b", "a"),), ranks)
        are_ranks(board, (), ranks)
        self.assertEqual(list(ranks.items()), [("c", 0), ("b", 5), ("a", 7)])
        for given in [{"b": "a", "a": None}, {"b": "a"}, {"c": None, "a": None}]:
            before = list(given.items())
            is_trap(board, given)
            for forbidden in sets_of(board):
                holds(board, forbidden, given)
            self.assertEqual(list(given.items()), before)

    def test_dicts_that_make_what_is_missing_are_not_filled(self):
        class Filling(dict):
            def __missing__(self, key):
                self[key] = None
                return None

        board = example()
        given = Filling({"a": None})
        holds(board, (), given)
        is_trap(board, given)
        self.assertEqual(given, {"a": None})
        given = Filling({"a": 1})
        are_ranks(board, (), given)
        self.assertEqual(given, {"a": 1})

    def test_dicts_may_be_changed_and_asked_about_again(self):
        board = example()
        found = {"a": None}
        self.assertIs(holds(board, (), found), False)
        found["b"] = "a"
        self.assertIs(holds(board, (), found), True)
        ranks = {"a": 2, "b": 1, "c": 0}
        self.assertIs(are_ranks(board, (("b", "a"),), ranks), True)
        ranks["b"] = 2
        self.assertIs(are_ranks(board, (("b", "a"),), ranks), False)


class Returned(unittest.TestCase):
    def test_names(self):
        board = example()
        names = board.names
        names.reverse()
        names.append("z")
        self.assertEqual(board.names, ["a", "b", "c"])
        self.assertIs(type(board.names), list)
        self.assertIsNot(board.names, board.names)
        self.assertEqual(board, example())
        self.assertEqual(board(("a", "b")), ["a", "c"])

    def test_moves(self):
        board = example()
        moves = board.moves
        moves.clear()
        self.assertEqual(board.moves, [("b", "a"), ("a", "b")])
        self.assertIs(type(board.moves), list)
        self.assertIsNot(board.moves, board.moves)
        self.assertEqual([type(move) for move in board.moves], [tuple, tuple])
        self.assertEqual(board, example())
        self.assertIs(is_winning(board, (("b", "a"),)), True)

    def test_lists_and_dicts(self):
        board = example()
        for call in [lambda: board(("a", "b")), lambda: distances(board, ()), lambda: trap(board, ()),
                     lambda: board.names, lambda: board.moves]:
            before = copy.copy(call())
            call().clear()
            self.assertEqual(call(), before)
            self.assertIsNot(call(), call())

    def test_boards_never_change(self):
        for _, board in some_boards(30, seed=9):
            before = copy.deepcopy(board)
            for forbidden in sets_of(board):
                distances(board, forbidden).clear()
                (trap(board, forbidden) or {}).clear()
                board((board.start,), forbidden).clear()
                is_winning(board, forbidden)
                board - forbidden
            self.assertTrue(board == before)
            self.assertEqual([list(board.names), board.start, board.moves], [before.names, before.start, before.moves])

    def test_the_fields_of_a_board_never_change(self):
        board = example()
        field = board["b"]
        -field
        board - (("b", "a"),)
        self.assertEqual(board["b"], Field(2, "a", "c"))
        self.assertEqual(field, Field(2, "a", "c"))


class Booleans(unittest.TestCase):
    """True and False in the place of a number, or of anything else."""

    def test_refused(self):
        board = example()
        fields, prices = raw_parts()
        calls = [
            (BadField, lambda: Field(True)), (BadField, lambda: Field(True, "a")), (BadField, lambda: Field(1, True)),
            (BadField, lambda: Field(1, "a", goal=1)), (BadField, lambda: Field(1, "a", goal=0)),
            (BadBoard, lambda: Board({True: Field(1)}, "a", {})), (BadBoard, lambda: Board(True, "a", {})),
            (BadBoard, lambda: Board({"a": True}, "a", {})), (BadBoard, lambda: Board(fields, True, {})),
            (BadBoard, lambda: Board(fields, "a", True)), (BadBoard, lambda: Board(fields, "a", {("a", "b"): True})),
            (BadBoard, lambda: Board(fields, "a", {("a", True): 1})), (BadBoard, lambda: Board(fields, "a", {True: 1})),
            (BadName, lambda: board[True]), (BadName, lambda: board.price(True)),
            (BadName, lambda: board.price((True, False))), (BadSet, lambda: board - True),
            (BadSet, lambda: board - (True,)), (BadSet, lambda: board(("a",), False)),
            (BadPlay, lambda: board(True)), (BadPlay, lambda: board((True,))), (BadPlay, lambda: board(("a", True))),
            (BadRanks, lambda: are_ranks(board, (), {"a": True})),
            (BadRanks, lambda: are_ranks(board, (), {"a": False})),
            (BadRanks, lambda: are_ranks(board, (), {True: 1})), (BadRanks, lambda: are_ranks(board, (), {False: 0})),
            (BadTrap, lambda: is_trap(board, {"a": False})), (BadTrap, lambda: is_trap(board, {True: None})),
            (BadTrap, lambda: holds(board, (), {"a": True})), (BadTrap, lambda: holds(board, (), {False: "a"})),
            (BadSet, lambda: distances(board, (False,))), (BadBoard, lambda: distances(True, ())),
        ]
        for at, (error, call) in enumerate(calls):
            with self.subTest(at), self.assertRaises(error):
                call()

    def test_answers_are_booleans(self):
        board = made({"a": (1, "a", True)}, "a", [(("a", "a"), 1)])
        answers = [board["a"].goal, "a" in board["a"], ("a", "a") in board, is_winning(board, ()),
                   are_ranks(board, (), {"a": 0}), not is_trap(board, {"a": None}), not holds(board, (), {"a": None}),
                   board == board, board["a"] == Field(1, "a", goal=True)]
        for answer in answers:
            self.assertIs(answer, True)


if __name__ == "__main__":
    unittest.main()
