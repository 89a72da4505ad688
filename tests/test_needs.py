"""Point 11: needless and needed moves."""

import unittest

from forbidmoves.errors import BadBoard, BadSet, NotWinning
from forbidmoves.needs import needed, needless
from tests.helper import (NOT_BOARDS, at_goal, example, largest, lost, made, mixed_boards, not_sets, sets_of, some_boards,
                          spoiled, two_ways, wins)

HELPED, SPOILED = ("b", "a"), ("a", "b")


class Needless(unittest.TestCase):
    def test_the_example(self):
        self.assertEqual(needless(example(), (HELPED,)), [])

    def test_each_move_alone_is_looked_at(self):
        one, two, three = two_ways(1, 2, 3).moves
        board = two_ways(1, 2, 3)
        self.assertEqual(needless(board, (three,)), [])
        self.assertEqual(needless(board, (one, two)), [])
        self.assertEqual(needless(board, (one, three)), [one])
        self.assertEqual(needless(board, (two, three)), [two])
        # Without the third move, the first two are winning; without one of these, the third one is.
        self.assertEqual(needless(board, (one, two, three)), [one, two, three])

    def test_moves_that_spoil(self):
        spoil, one, two = spoiled().moves
        board = spoiled()
        self.assertEqual(needless(board, (one,)), [])
        self.assertEqual(needless(board, (two,)), [])
        self.assertEqual(needless(board, (spoil, two)), [spoil])
        self.assertEqual(needless(board, (one, two)), [one, two])
        self.assertEqual(needless(board, (spoil, one, two)), [spoil, one])

    def test_the_empty_set(self):
        self.assertEqual(needless(at_goal(), ()), [])
        self.assertEqual(needless(made({"a": (2, "", False)}, "a"), ()), [])

    def test_where_all_sets_are_winning(self):
        self.assertEqual(needless(at_goal(), (("a", "b"), ("a", "a"))), [("a", "b"), ("a", "a")])
        self.assertEqual(needless(at_goal(), (("a", "a"),)), [("a", "a")])

    def test_the_largest(self):
        board = largest()
        self.assertEqual(needless(board, tuple(board.moves)), [])
        raw = {"s": (2, "abcdefg", False), **{name: (1, "g", False) for name in "abcdef"}, "g": (1, "", True)}
        board = made(raw, "s", [(("s", name), 1) for name in "fbdcea"])
        self.assertEqual(needless(board, tuple(board.moves)), board.moves)

    def test_a_set_that_is_not_winning(self):
        for forbidden in [(), (SPOILED,), (HELPED, SPOILED)]:
            with self.assertRaises(NotWinning):
                needless(example(), forbidden)
        for forbidden in sets_of(lost()):
            with self.assertRaises(NotWinning):
                needless(lost(), forbidden)
        with self.assertRaises(NotWinning):
            needless(largest(), tuple(largest().moves[1:]))

    def test_what_is_not_a_set(self):
        for wrong in not_sets(example()):
            with self.assertRaises(BadSet):
                needless(example(), wrong)
        for wrong in not_sets(lost()):
            with self.assertRaises(BadSet):
                needless(lost(), wrong)

    def test_what_is_not_a_board(self):
        for wrong in NOT_BOARDS:
            for forbidden in [(), 5, (HELPED,)]:
                with self.assertRaises(BadBoard) as caught:
                    needless(wrong, forbidden)
                self.assertIsNone(caught.exception.part)

    def test_against_the_words(self):
        for raw, board in [*some_boards(80, seed=61), *mixed_boards(60, seed=62)]:
            for forbidden in sets_of(board):
                if wins(raw, board.start, forbidden):
                    expected = []
                    for at, move in enumerate(forbidden):
                        if wins(raw, board.start, forbidden[:at] + forbidden[at + 1:]):
                            expected.append(move)
                    self.assertEqual(needless(board, forbidden), expected)
                else:
                    with self.assertRaises(NotWinning):
                        needless(board, forbidden)

    def test_arguments_by_name(self):
        self.assertEqual(needless(forbidden=(HELPED,), board=example()), [])


class Needed(unittest.TestCase):
    def test_the_example(self):
        self.assertEqual(needed(example()), [HELPED])

    def test_none_of_several_ways(self):
        self.assertEqual(needed(two_ways(1, 2, 3)), [])
        self.assertEqual(needed(spoiled()), [])

    def test_beside_a_choice(self):
        raw = {"s": (2, "ad", False), "a": (1, "bc", False), "b": (2, "gd", False), "c": (2, "gd", False),
               "d": (1, "", False), "g": (1, "", True)}
        board = made(raw, "s", [(("b", "d"), 1), (("s", "d"), 9), (("c", "d"), 1)])
        self.assertEqual(needed(board), [("s", "d")])

    def test_several_in_the_order_of_the_prices(self):
        raw = {"a": (2, "bcg", False), "b": (1, "", False), "c": (1, "", False), "g": (1, "a", True)}
        board = made(raw, "a", [(("a", "c"), 1), (("g", "a"), 1), (("a", "b"), 1), (("a", "g"), 1)])
        self.assertEqual(needed(board), [("a", "c"), ("a", "b")])

    def test_the_largest(self):
        self.assertEqual(needed(largest()), largest().moves)

    def test_where_the_empty_set_is_winning(self):
        self.assertEqual(needed(at_goal()), [])

    def test_all_if_no_set_is_winning(self):
        self.assertEqual(needed(lost()), [("b", "b"), ("a", "b")])
        raw = {"s": (1, "abcdefg", False), **{name: (1, "s", False) for name in "abcdefg"}}
        board = made(raw, "s", [(("s", name), 1) for name in "fbdcea"])
        self.assertEqual(needed(board), [("s", name) for name in "fbdcea"])

    def test_without_prices(self):
        self.assertEqual(needed(made({"a": (2, "", False)}, "a")), [])
        self.assertEqual(needed(made({"a": (1, "", False)}, "a")), [])

    def test_what_is_not_a_board(self):
        for wrong in NOT_BOARDS:
            with self.assertRaises(BadBoard) as caught:
                needed(wrong)
            self.assertIsNone(caught.exception.part)

    def test_against_the_words(self):
        for raw, board in [*some_boards(80, seed=63), *mixed_boards(60, seed=64)]:
            won = [forbidden for forbidden in sets_of(board) if wins(raw, board.start, forbidden)]
            expected = [move for move in board.moves if all(move in forbidden for forbidden in won)]
            self.assertEqual(needed(board), expected)

    def test_the_argument_by_name(self):
        self.assertEqual(needed(board=example()), [HELPED])


class Lists(unittest.TestCase):
    def test_each_list_is_new(self):
        board = two_ways(1, 2, 3)
        whole = tuple(board.moves)
        needless(board, whole).clear()
        self.assertEqual(needless(board, whole), board.moves)
        needed(largest()).clear()
        board = largest()
        needed(board).clear()
        self.assertEqual(needed(board), largest().moves)
        self.assertEqual(board.moves, largest().moves)
        self.assertEqual([type(needed(board)), type(needless(board, tuple(board.moves)))], [list, list])

    def test_the_set_may_be_used_again(self):
        board = spoiled()
        whole = tuple(board.moves)
        self.assertEqual(needless(board, whole), needless(board, whole))
        self.assertEqual(whole, tuple(spoiled().moves))


if __name__ == "__main__":
    unittest.main()
