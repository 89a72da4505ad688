"""Point 4: sets of moves and plays, as boards that are called see them."""

import unittest

from forbidmoves.boards import Board, Field
from forbidmoves.errors import BadPlay, BadSet
from tests.helper import NOT_NAMES, NOT_STRINGS, example, made, not_sets, sets_of, some_boards, steps_of


class Calling(unittest.TestCase):
    def test_at_the_start(self):
        self.assertEqual(example()(("a",)), ["b"])
        self.assertEqual(example()(("a",), ()), ["b"])

    def test_after_steps(self):
        self.assertEqual(example()(("a", "b")), ["a", "c"])
        self.assertEqual(example()(("a", "b", "a", "b", "a")), ["b"])

    def test_at_a_goal(self):
        self.assertEqual(example()(("a", "b", "c")), [])
        board = made({"a": (1, "ab", True), "b": (2, "a", False)}, "a", [(("a", "b"), 1)])
        self.assertEqual(board(("a",)), [])
        self.assertEqual(made({"a": (1, "ab", True), "b": (2, "a", False)}, "b")(("b", "a")), [])

    def test_where_no_move_is_left(self):
        board = example()
        self.assertEqual(board(("a",), (("a", "b"),)), [])
        self.assertEqual(made({"a": (2, "", False)}, "a")(("a",)), [])
        self.assertEqual(made({"a": (1, "b", False), "b": (2, "", False)}, "a")(("a", "b")), [])

    def test_forbidden_moves(self):
        board = example()
        self.assertEqual(board(("a", "b"), (("b", "a"),)), ["c"])
        self.assertEqual(board(("a",), (("b", "a"),)), ["b"])

    def test_set_of_all_prices(self):
        board = made({"a": (1, "ab", False), "b": (2, "a", False)}, "a",
                     [(("a", "b"), 1), (("b", "a"), 1), (("a", "a"), 9)])
        self.assertEqual(board(("a",), tuple(board.moves)), [])

    def test_the_set_may_be_given_by_its_name(self):
        self.assertEqual(example()(("a", "b"), forbidden=(("b", "a"),)), ["c"])
        self.assertEqual(example()(play=("a", "b"), forbidden=()), ["a", "c"])

    def test_the_order_is_that_of_the_board_and_not_of_the_targets(self):
        board = made({"d": (1, "abcd", False), "b": (1, "", False), "c": (1, "", False), "a": (1, "", False)}, "d")
        self.assertEqual(board(("d",)), ["d", "b", "c", "a"])
        board = made({"a": (1, "ba", False), "b": (1, "", False)}, "a")
        self.assertEqual(board(("a",)), ["a", "b"])

    def test_moves_to_the_same_field(self):
        board = made({"a": (1, "a", False)}, "a", [(("a", "a"), 1)])
        self.assertEqual(board(("a",) * 100), ["a"])
        self.assertEqual(board(("a",), (("a", "a"),)), [])

    def test_long_plays(self):
        self.assertEqual(example()(("a", "b") * 3000), ["a", "c"])

    def test_plays_on_some_boards(self):
        for raw, board in some_boards(60, seed=4):
            for forbidden in sets_of(board)[:20]:
                plays = [(board.start,)]
                for play in plays:
                    spot = play[-1]
                    goal = raw[spot][2]
                    steps = [] if goal else [name for name in raw if name in steps_of(raw, forbidden, spot)]
                    self.assertEqual(board(play, forbidden), steps)
                    if len(plays) < 30:
                        plays.extend([(*play, name) for name in steps])

    def test_the_list_is_new(self):
        board = example()
        first = board(("a", "b"))
        first.append("z")
        first.reverse()
        self.assertEqual(board(("a", "b")), ["a", "c"])
        last = board(("a", "b", "c"))
        last.append("z")
        self.assertEqual(board(("a", "b", "c")), [])


class Refusing(unittest.TestCase):
    def index(self, board, play, forbidden=()):
        with self.assertRaises(BadPlay) as caught:
            board(play, forbidden)
        return caught.exception.index

    def test_what_is_not_a_tuple(self):
        for play in [None, True, False, 0, 1, "a", "ab", b"a", ["a"], ["a", "b"], [], {}, {"a": 1}, {"a"}, tuple,
                     range(2)]:
            self.assertIsNone(self.index(example(), play))

    def test_an_empty_play(self):
        self.assertEqual(self.index(example(), ()), 0)
        self.assertEqual(self.index(example(), (), (("b", "a"),)), 0)
        self.assertIs(type(self.index(example(), ())), int)

    def test_a_play_that_does_not_begin_at_the_start(self):
        for first in [*NOT_STRINGS, *NOT_NAMES, "b", "c", "d", "aa"]:
            self.assertEqual(self.index(example(), (first,)), 0)
            self.assertEqual(self.index(example(), (first, "b")), 0)
            self.assertEqual(self.index(example(), (first, 5, None)), 0)

    def test_a_step_that_is_no_move(self):
        for step in [*NOT_STRINGS, *NOT_NAMES, "a", "c", "d"]:
            self.assertEqual(self.index(example(), ("a", step)), 1)
            self.assertEqual(self.index(example(), ("a", step, "a")), 1)
        for step in [*NOT_STRINGS, *NOT_NAMES, "b", "d"]:
            self.assertEqual(self.index(example(), ("a", "b", step)), 2)
            self.assertEqual(self.index(example(), ("a", "b", "a", "b", step, step)), 4)

    def test_a_step_from_a_goal(self):
        board = made({"a": (1, "ab", False), "b": (2, "ab", True)}, "a")
        self.assertEqual(board(("a", "b")), [])
        self.assertEqual(self.index(board, ("a", "b", "a")), 2)
        self.assertEqual(self.index(board, ("a", "a", "b", "b", "z")), 3)
        self.assertEqual(self.index(made({"a": (1, "a", True)}, "a"), ("a", "a")), 1)

    def test_a_step_where_no_move_is_left(self):
        self.assertEqual(self.index(made({"a": (1, "", False)}, "a"), ("a", "a")), 1)

    def test_a_forbidden_step(self):
        board = example()
        self.assertEqual(self.index(board, ("a", "b"), (("a", "b"),)), 1)
        self.assertEqual(self.index(board, ("a", "b", "a"), (("b", "a"),)), 2)
        self.assertEqual(self.index(board, ("a", "b", "a", "b"), (("b", "a"), ("a", "b"))), 1)
        self.assertEqual(board(("a", "b", "c"), (("b", "a"),)), [])

    def test_a_priced_move_that_is_not_forbidden(self):
        self.assertEqual(example()(("a", "b", "a"), ()), ["b"])

    def test_what_is_not_a_set(self):
        board = example()
        for forbidden in not_sets(board):
            with self.assertRaises(BadSet):
                board(("a",), forbidden)

    def test_all_sets_are_taken_and_in_no_other_order(self):
        raw = {"a": (1, "ab", False), "b": (1, "ab", False)}
        board = made(raw, "a", [(("b", "b"), 1), (("a", "a"), 1), (("b", "a"), 1), (("a", "b"), 1)])
        self.assertEqual(len(sets_of(board)), 16)
        for forbidden in sets_of(board):
            board(("a",), forbidden)
            if len(forbidden) > 1:
                for wrong in [forbidden[::-1], forbidden[1:] + forbidden[:1], forbidden[:1] + forbidden]:
                    with self.assertRaises(BadSet):
                        board(("a",), wrong)

    def test_the_set_comes_before_the_play(self):
        board = example()
        for forbidden in [None, [], (("b", "c"),), (("a", "b"), ("b", "a"))]:
            for play in [None, (), ("b",), ("a", 5)]:
                with self.assertRaises(BadSet):
                    board(play, forbidden)

    def test_a_refused_call_changes_nothing(self):
        board, play = example(), ["a", "b"]
        self.index(board, play)
        self.assertEqual(play, ["a", "b"])
        self.assertEqual(board, example())


if __name__ == "__main__":
    unittest.main()
