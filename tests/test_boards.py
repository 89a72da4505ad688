"""Point 3 and the class Board, but for playing."""

import unittest

from forbidmoves.boards import Board, Field
from forbidmoves.errors import BadBoard, BadName, BadSet
from tests.helper import NOT_NAMES, NOT_STRINGS, example, made, not_sets, sets_of, some_boards


def three():
    return {"a": Field(1, "b"), "b": Field(2, "a", "c"), "c": Field(1, goal=True)}


def ring(many):
    names = list("abcdefghijkl")[:many]
    return {name: Field(1 + at % 2, *names) for at, name in enumerate(names)}


class Making(unittest.TestCase):
    def part(self, fields, start, prices):
        with self.assertRaises(BadBoard) as caught:
            Board(fields, start, prices)
        return caught.exception.part

    def test_properties(self):
        board = Board(three(), "b", {("b", "c"): 9, ("a", "b"): 1})
        self.assertEqual(board.names, ["a", "b", "c"])
        self.assertEqual(board.start, "b")
        self.assertEqual(board.moves, [("b", "c"), ("a", "b")])
        self.assertEqual(len(board), 2)

    def test_order_is_that_of_the_dicts(self):
        fields = {"c": Field(1), "a": Field(2, "b", "a"), "b": Field(1, "a")}
        board = Board(fields, "a", {("b", "a"): 3, ("a", "b"): 4, ("a", "a"): 2})
        self.assertEqual(board.names, ["c", "a", "b"])
        self.assertEqual(board.moves, [("b", "a"), ("a", "b"), ("a", "a")])

    def test_one_field_and_no_prices(self):
        board = Board({"a": Field(1)}, "a", {})
        self.assertEqual([board.names, board.start, board.moves, len(board)], [["a"], "a", [], 0])
        board = Board({"abcdefgh": Field(2, "abcdefgh", goal=True)}, "abcdefgh", {("abcdefgh", "abcdefgh"): 9})
        self.assertEqual([board.names, board.start, len(board)], [["abcdefgh"], "abcdefgh", 1])

    def test_eight_fields_and_six_prices(self):
        fields = ring(8)
        prices = {(name, "h"): cost for name, cost in zip("abcdef", [1, 9, 2, 8, 3, 7])}
        board = Board(fields, "h", prices)
        self.assertEqual(board.names, list("abcdefgh"))
        self.assertEqual(len(board), 6)
        self.assertEqual([board.price(move) for move in board.moves], [1, 9, 2, 8, 3, 7])

    def test_goals_may_have_targets_owners_and_priced_moves(self):
        board = made({"a": (2, "ab", True), "b": (1, "", True)}, "a", [(("a", "b"), 5)])
        self.assertEqual(board.moves, [("a", "b")])
        self.assertIs(board["a"].goal, True)

    def test_fields_that_are_not_a_dict_of_one_to_eight(self):
        for fields in [None, True, 0, 1, "a", [], [("a", Field(1))], (), ("a",), {"a"}, Field(1),
                       {}, ring(9), ring(10), {1: 2, **ring(8)}, list(three().items()), dict]:
            self.assertIsNone(self.part(fields, "a", {}))

    def test_too_many_fields_come_before_wrong_ones(self):
        fields = {"A": 5, **ring(8)}
        self.assertIsNone(self.part(fields, "a", {}))

    def test_keys_that_are_not_names(self):
        for key in [name for name in NOT_NAMES] + [5, 1, True, False, b"a", ("a",), (), 0]:
            part = self.part({"a": Field(1), key: Field(2), "b": Field(1)}, "a", {})
            self.assertEqual(part, key)
            self.assertIs(type(part), type(key))
        self.assertIsNone(self.part({"a": Field(1), None: Field(2), 7: Field(1)}, "a", {}))

    def test_values_that_are_not_fields(self):
        for value in [None, True, 0, 1, "a", (), (1, "a"), [1, "a"], {}, Field, object()]:
            self.assertEqual(self.part({"a": Field(1), "b": value}, "a", {}), "b")

    def test_targets_that_are_not_keys(self):
        self.assertEqual(self.part({"a": Field(1, "b")}, "a", {}), "a")
        self.assertEqual(self.part({"a": Field(1, "b"), "b": Field(1, "a", "b", "c")}, "a", {}), "b")
        self.assertEqual(self.part({"a": Field(1, "c", "b"), "b": Field(1)}, "a", {}), "a")

    def test_the_first_wrong_key_is_named(self):
        self.assertEqual(self.part({"a": Field(1), "b": Field(1, "d"), 5: Field(1), "c": 3}, "a", {}), "b")
        self.assertEqual(self.part({"a": Field(1), 5: Field(1, "d"), "b": Field(1, "d")}, "a", {}), 5)
        self.assertEqual(self.part({"c": 3, "a": Field(1), "b": Field(1, "d")}, "a", {}), "c")
        self.assertEqual(self.part({"b": Field(1), "c": Field(1, "x"), "a": 5}, "a", {}), "c")

    def test_wrong_starts(self):
        for start in NOT_STRINGS + NOT_NAMES + ["d", "ab", "START"]:
            self.assertEqual(self.part(three(), start, {}), "START")

    def test_prices_that_are_not_a_dict(self):
        for prices in [None, True, 0, "", "ab", [], [("a", "b")], (), [(("a", "b"), 1)], {("a", "b")}, dict]:
            self.assertEqual(self.part(three(), "a", prices), "PRICES")

    def test_seven_prices(self):
        moves = [(name, "h") for name in "abcdefgh"]
        self.assertEqual(len(Board(ring(8), "a", {move: 1 for move in moves[:6]})), 6)
        for many in (7, 8):
            self.assertEqual(self.part(ring(8), "a", {move: 1 for move in moves[:many]}), "PRICES")

    def test_prices_of_what_is_not_a_move(self):
        for move in [("a", "a"), ("b", "b"), ("c", "a"), ("d", "a"), ("a", "d"), ("a",), ("a", "b", "c"), (), "ab", "a",
                     None, True, 1, ("a", 1), (1, "b"), (True, "b"), ("a", None), (None, None), ("a", ("b",)),
                     (("a",), "b"), (("a", "b"),), ("b", "a", "a"),
                     ("A", "b"), (b"a", b"b"), frozenset("ab")]:
            self.assertEqual(self.part(three(), "a", {move: 1}), "PRICES")
            self.assertEqual(self.part(three(), "a", {("a", "b"): 1, move: 1}), "PRICES")
            self.assertEqual(self.part(three(), "a", {move: 1, ("a", "b"): 1}), "PRICES")

    def test_costs(self):
        for cost in range(1, 10):
            board = Board(three(), "a", {("a", "b"): cost})
            self.assertEqual(board.price(("a", "b")), cost)
            self.assertIs(type(board.price(("a", "b"))), int)

    def test_wrong_costs(self):
        for cost in [0, 10, -1, 11, 99, 10 ** 20, True, False, None, "1", b"1", [1], (1,), {1: 1}, int]:
            self.assertEqual(self.part(three(), "a", {("a", "b"): cost}), "PRICES")
            self.assertEqual(self.part(three(), "a", {("a", "b"): 1, ("b", "c"): cost}), "PRICES")
            self.assertEqual(self.part(three(), "a", {("b", "c"): cost, ("a", "b"): 1}), "PRICES")

    def test_which_error_comes_first(self):
        wrong = {"a": Field(1), "b": 5}
        self.assertEqual(self.part(wrong, "d", {1: 1}), "b")
        self.assertEqual(self.part(wrong, "a", {1: 1}), "b")
        self.assertEqual(self.part(three(), "d", {1: 1}), "START")
        self.assertEqual(self.part(three(), 5, 5), "START")
        self.assertIsNone(self.part([], 5, 5))
        self.assertIsNone(self.part({}, 5, 5))

    def test_a_refused_call_has_not_changed_its_arguments(self):
        fields, prices = {"a": Field(1, "a")}, {("a", "a"): 0}
        self.part(fields, "a", prices)
        self.assertEqual([fields, prices], [{"a": Field(1, "a")}, {("a", "a"): 0}])

    def test_properties_cannot_be_assigned(self):
        board = example()
        for name, value in [("names", []), ("start", "b"), ("moves", [])]:
            with self.assertRaises(AttributeError):
                setattr(board, name, value)
        self.assertEqual(board, example())


class Asking(unittest.TestCase):
    def test_items(self):
        board = Board(three(), "b", {})
        for name in "abc":
            self.assertEqual(board[name], three()[name])
            self.assertIsInstance(board[name], Field)

    def test_items_that_are_not_there(self):
        for name in NOT_STRINGS + NOT_NAMES + ["d", "ab", "abcdefgh"]:
            with self.assertRaises(BadName):
                example()[name]
        for number in range(-2, 4):
            with self.assertRaises(BadName):
                example()[number]

    def test_contains_moves_that_have_a_price(self):
        board = example()
        self.assertIs(("b", "a") in board, True)
        self.assertIs(("a", "b") in board, True)
        self.assertIs(("b", "c") in board, False)

    def test_contains_asks_for_a_value_of_any_kind(self):
        board = example()
        for value in [*NOT_STRINGS, *NOT_NAMES, "a", "ab", "ba", ["a", "b"], ["b", "a"], ("a",), ("a", "b", "a"), (),
                      ("b", "b"), ("c", "a"), ("d", "a"), (1, 2), (True, False), (["a"], "b"), ("a", ["b"]), ("a", {}),
                      (("a", "b"),), ({}, {}), ([], "b"), ("a", set()),
                      {("a", "b"): 1}, (None, None)]:
            self.assertIs(value in board, False)

    def test_length_is_the_number_of_prices(self):
        self.assertEqual([len(example()), len(Board(three(), "a", {}))], [2, 0])
        self.assertEqual(len(Board(three(), "a", {("b", "c"): 1})), 1)

    def test_price(self):
        board = example()
        self.assertEqual([board.price(("b", "a")), board.price(("a", "b"))], [2, 1])

    def test_price_of_what_has_none(self):
        board = example()
        for move in [*NOT_STRINGS, "ab", ["a", "b"], ("b", "c"), ("c", "b"), ("a",), ("a", "b", "c"), (),
                     (["a"], "b"), ("a", ["b"]), (1, 2), (("a",), "b"), {}]:
            with self.assertRaises(BadName):
                board.price(move)

    def test_equality(self):
        self.assertTrue(example() == example())
        self.assertFalse(example() != example())
        self.assertTrue(Board(three(), "a", {}) == Board(three(), "a", {}))

    def test_inequality(self):
        prices = {("b", "a"): 2, ("a", "b"): 1}
        board = Board(three(), "a", prices)
        turned = dict(reversed(list(three().items())))
        others = [
            Board(three(), "b", prices),
            Board(three(), "a", {("a", "b"): 1, ("b", "a"): 2}),
            Board(three(), "a", {("b", "a"): 1, ("a", "b"): 2}),
            Board(three(), "a", {("b", "a"): 2}),
            Board(three(), "a", {}),
            Board(three(), "a", {("b", "a"): 2, ("b", "c"): 1}),
            Board(turned, "a", prices),
            Board({**three(), "d": Field(1)}, "a", prices),
            Board({**three(), "c": Field(2, goal=True)}, "a", prices),
            Board({**three(), "c": Field(1)}, "a", prices),
            Board({**three(), "b": Field(2, "c", "a")}, "a", prices),
            Board({**three(), "c": Field(1, "a", goal=True)}, "a", prices),
        ]
        for other in others:
            self.assertFalse(board == other)
            self.assertFalse(other == board)
            self.assertTrue(board != other)

    def test_a_board_equals_no_other_value(self):
        for other in [None, 1, True, "a", three(), (three(), "a", {}), Field(1), object()]:
            self.assertFalse(example() == other)
            self.assertTrue(example() != other)


class Subtracting(unittest.TestCase):
    def test_without_no_moves(self):
        board = example()
        self.assertEqual(board - (), example())

    def test_without_one_move(self):
        board = example() - (("b", "a"),)
        fields = {"a": Field(1, "b"), "b": Field(2, "c"), "c": Field(1, goal=True)}
        self.assertEqual(board, Board(fields, "a", {("a", "b"): 1}))
        self.assertEqual(board["b"], Field(2, "c"))

    def test_without_all_moves(self):
        board = example() - (("b", "a"), ("a", "b"))
        fields = {"a": Field(1), "b": Field(2, "c"), "c": Field(1, goal=True)}
        self.assertEqual(board, Board(fields, "a", {}))
        self.assertEqual(len(board), 0)

    def test_goals_lose_targets_too(self):
        board = made({"a": (2, "ab", True), "b": (1, "ba", False)}, "b", [(("a", "b"), 3), (("b", "b"), 4)])
        self.assertEqual(board - (("a", "b"),), made({"a": (2, "a", True), "b": (1, "ba", False)}, "b",
                                                     [(("b", "b"), 4)]))

    def test_all_else_is_in_the_same_order(self):
        raw = {"c": (1, ("d", "b", "a"), False), "a": (2, ("c", "a"), True), "d": (2, (), False),
               "b": (1, ("c",), False)}
        prices = [(("c", "b"), 4), (("a", "a"), 2), (("c", "a"), 9), (("b", "c"), 1)]
        board = made(raw, "d", prices) - (("c", "b"), ("b", "c"))
        left = {**raw, "c": (1, ("d", "a"), False), "b": (1, (), False)}
        self.assertEqual(board, made(left, "d", prices[1:3]))
        self.assertEqual(board.names, ["c", "a", "d", "b"])
        self.assertEqual(board.moves, [("a", "a"), ("c", "a")])
        self.assertEqual(board["c"].targets, ("d", "a"))

    def test_all_sets_of_some_boards(self):
        for raw, board in some_boards(40):
            for forbidden in sets_of(board):
                left = board - forbidden
                self.assertEqual(left.names, board.names)
                self.assertEqual(left.start, board.start)
                self.assertEqual(left.moves, [move for move in board.moves if move not in forbidden])
                self.assertEqual([left.price(move) for move in left.moves], [board.price(move) for move in left.moves])
                for name, (owner, targets, goal) in raw.items():
                    kept = [target for target in targets if (name, target) not in forbidden]
                    self.assertEqual(left[name], Field(owner, *kept, goal=goal))

    def test_the_board_itself_stays(self):
        board = example()
        board - (("b", "a"), ("a", "b"))
        self.assertEqual(board, example())

    def test_what_is_not_a_set(self):
        board = example()
        for forbidden in not_sets(board):
            with self.assertRaises(BadSet):
                board - forbidden
        self.assertEqual(board, example())


if __name__ == "__main__":
    unittest.main()
