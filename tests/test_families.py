"""Point 9 and the order of sets and their costs, of point 8."""

import unittest

from forbidmoves.boards import Board, Field
from forbidmoves.errors import BadBoard, BadSet
from forbidmoves.forbidding import breaches, rescues, set_cost, winning_sets
from tests.helper import (NOT_BOARDS, at_goal, example, largest, lost, made, mixed_boards, not_sets, sets_of, some_boards,
                          spoiled, two_ways, wins)

HELPED, SPOILED = ("b", "a"), ("a", "b")


class Costs(unittest.TestCase):
    def test_the_example(self):
        self.assertEqual([set_cost(example(), forbidden) for forbidden in sets_of(example())], [0, 2, 1, 3])

    def test_no_moves_and_all_moves(self):
        self.assertEqual(set_cost(largest(), ()), 0)
        self.assertEqual(set_cost(largest(), tuple(largest().moves)), 30)
        self.assertEqual(set_cost(made({"a": (1, "", False)}, "a"), ()), 0)

    def test_the_most_that_a_set_can_cost(self):
        raw = {"a": (1, "abcdef", False), **{name: (2, "", False) for name in "bcdef"}}
        board = made(raw, "a", [(("a", name), 9) for name in "fedcba"])
        self.assertEqual(set_cost(board, tuple(board.moves)), 54)

    def test_sets_that_are_winning_or_not(self):
        self.assertEqual(set_cost(spoiled(), (("a", "b"), ("c", "d"))), 6)
        self.assertEqual(set_cost(spoiled(), (("b", "d"),)), 4)

    def test_what_is_not_a_set(self):
        for wrong in not_sets(example()):
            with self.assertRaises(BadSet):
                set_cost(example(), wrong)

    def test_what_is_not_a_board(self):
        for wrong in NOT_BOARDS:
            with self.assertRaises(BadBoard) as caught:
                set_cost(wrong, ())
            self.assertIsNone(caught.exception.part)

    def test_the_board_is_looked_at_first(self):
        for wrong in NOT_BOARDS:
            with self.assertRaises(BadBoard):
                set_cost(wrong, "ab")

    def test_arguments_by_name(self):
        self.assertEqual(set_cost(forbidden=(SPOILED,), board=example()), 1)


class Winning(unittest.TestCase):
    def test_the_example(self):
        self.assertEqual(winning_sets(example()), [(HELPED,)])

    def test_the_smaller_ones_first_then_by_indices(self):
        one, two, three = two_ways(1, 2, 3).moves
        self.assertEqual(winning_sets(two_ways(1, 2, 3)),
                         [(three,), (one, two), (one, three), (two, three), (one, two, three)])

    def test_costs_do_not_matter(self):
        self.assertEqual(winning_sets(two_ways(9, 9, 1)), winning_sets(two_ways(1, 1, 9)))

    def test_moves_of_the_first_player(self):
        spoil, one, two = spoiled().moves
        self.assertEqual(winning_sets(spoiled()), [(one,), (two,), (spoil, two), (one, two), (spoil, one, two)])

    def test_the_order_is_that_of_the_prices_not_that_of_the_fields(self):
        raw = {"a": (2, "bcg", False), "b": (1, "", False), "c": (1, "", False), "g": (1, "", True)}
        board = made(raw, "a", [(("a", "g"), 1), (("a", "c"), 1), (("a", "b"), 1)])
        self.assertEqual(winning_sets(board), [(("a", "c"), ("a", "b")), tuple(board.moves)])

    def test_the_largest(self):
        self.assertEqual(winning_sets(largest()), [tuple(largest().moves)])
        raw = {"s": (2, "abcdefg", False), **{name: (1, "g", False) for name in "abcdef"}, "g": (1, "", True)}
        board = made(raw, "s", [(("s", name), 1) for name in "fbdcea"])
        self.assertEqual(winning_sets(board), sets_of(board))
        self.assertEqual(len(winning_sets(board)), 64)

    def test_the_start_is_a_goal(self):
        self.assertEqual(winning_sets(at_goal()),
                         [(), (("a", "b"),), (("a", "a"),), (("a", "b"), ("a", "a"))])

    def test_none_is_winning(self):
        self.assertEqual(winning_sets(lost()), [])

    def test_without_prices(self):
        self.assertEqual(winning_sets(made({"a": (2, "", False)}, "a")), [()])
        self.assertEqual(winning_sets(made({"a": (1, "", False)}, "a")), [])

    def test_against_the_words(self):
        for raw, board in [*some_boards(100, seed=21), *mixed_boards(60, seed=21)]:
            self.assertEqual(winning_sets(board), [chosen for chosen in sets_of(board) if wins(raw, board.start, chosen)])


class Pairs(unittest.TestCase):
    def test_the_example(self):
        self.assertEqual(breaches(example()), [((HELPED,), (HELPED, SPOILED))])
        self.assertEqual(rescues(example()), [((), (HELPED,))])

    def test_the_order(self):
        one, two, three = two_ways(1, 2, 3).moves
        self.assertEqual(breaches(two_ways(1, 2, 3)), [])
        self.assertEqual(rescues(two_ways(1, 2, 3)), [
            ((), (three,)), ((one,), (one, two)), ((one,), (one, three)), ((two,), (one, two)), ((two,), (two, three)),
        ])

    def test_moves_of_both_players(self):
        spoil, one, two = spoiled().moves
        self.assertEqual(breaches(spoiled()), [((one,), (spoil, one))])
        self.assertEqual(rescues(spoiled()), [
            ((), (one,)), ((), (two,)), ((spoil,), (spoil, two)), ((spoil, one), (spoil, one, two)),
        ])

    def test_several_breaches_of_one_set(self):
        raw = {"a": (1, "b", False), "b": (1, "c", False), "c": (1, "d", False), "d": (1, "", True)}
        board = made(raw, "a", [(("c", "d"), 1), (("a", "b"), 1), (("b", "c"), 1)])
        self.assertEqual(breaches(board), [((), (("c", "d"),)), ((), (("a", "b"),)), ((), (("b", "c"),))])
        self.assertEqual(rescues(board), [])

    def test_the_largest(self):
        board = largest()
        whole = tuple(board.moves)
        self.assertEqual(breaches(board), [])
        self.assertEqual(rescues(board), [
            (whole[:5], whole), (whole[:4] + whole[5:], whole), (whole[:3] + whole[4:], whole),
            (whole[:2] + whole[3:], whole), (whole[:1] + whole[2:], whole), (whole[1:], whole),
        ])

    def test_all_or_none_winning(self):
        for board in [at_goal(), lost(), made({"a": (1, "", False)}, "a"), made({"a": (2, "", False)}, "a")]:
            self.assertEqual([breaches(board), rescues(board)], [[], []])

    def test_against_the_words(self):
        for raw, board in [*some_boards(100, seed=22), *mixed_boards(60, seed=22)]:
            sets = sets_of(board)
            won = {chosen: wins(raw, board.start, chosen) for chosen in sets}
            pairs = [(first, second) for first in sets for second in sets
                     if set(first) < set(second) and len(second) == len(first) + 1]
            self.assertEqual(breaches(board), [pair for pair in pairs if won[pair[0]] and not won[pair[1]]])
            self.assertEqual(rescues(board), [pair for pair in pairs if not won[pair[0]] and won[pair[1]]])


class Kinds(unittest.TestCase):
    def test_what_is_not_a_board(self):
        for function in [winning_sets, breaches, rescues]:
            for wrong in NOT_BOARDS:
                with self.assertRaises(BadBoard) as caught:
                    function(wrong)
                self.assertIsNone(caught.exception.part)

    def test_lists_of_tuples(self):
        self.assertEqual(repr(winning_sets(example())), "[(('b', 'a'),)]")
        self.assertEqual(repr(breaches(example())), "[((('b', 'a'),), (('b', 'a'), ('a', 'b')))]")
        self.assertEqual(repr(rescues(example())), "[((), (('b', 'a'),))]")

    def test_each_list_is_new(self):
        board = spoiled()
        for function in [winning_sets, breaches, rescues]:
            before = list(function(board))
            function(board).clear()
            self.assertEqual(function(board), before)

    def test_the_argument_by_name(self):
        board = example()
        self.assertEqual([winning_sets(board=board), breaches(board=board), rescues(board=board)],
                         [winning_sets(board), breaches(board), rescues(board)])

    def test_a_board_without_the_moves_of_a_set(self):
        fields = {"a": Field(1, "b"), "b": Field(2, "a", "c"), "c": Field(1, goal=True)}
        board = Board(fields, "a", {HELPED: 2, SPOILED: 1}) - (HELPED,)
        self.assertEqual(winning_sets(board), [()])
        self.assertEqual(breaches(board), [((), (SPOILED,))])


if __name__ == "__main__":
    unittest.main()
