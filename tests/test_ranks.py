"""Point 6: ranks."""

import unittest

from forbidmoves.errors import BadBoard, BadRanks, BadSet
from forbidmoves.winning import are_ranks, distances, is_winning
from tests.helper import (NOT_BOARDS, NOT_NAMES, NOT_STRINGS, dicts_over, example, made, not_sets, ranks_by_the_words,
                          sets_of, some_boards)

HELPED = (("b", "a"),)


class Ranks(unittest.TestCase):
    def test_ranks_of_the_example(self):
        board = example()
        self.assertIs(are_ranks(board, HELPED, {"a": 2, "b": 1, "c": 0}), True)
        self.assertIs(are_ranks(board, HELPED, {"c": 7, "a": 10 ** 30, "b": 8}), True)

    def test_numbers_must_fall(self):
        board = example()
        for ranks in [{"a": 1, "b": 1, "c": 0}, {"a": 2, "b": 1, "c": 1}, {"a": 0, "b": 1, "c": 2},
                      {"a": 2, "b": 0, "c": 0}, {"a": 0, "b": 0, "c": 0}, {"a": 1, "b": 2, "c": 0}]:
            self.assertIs(are_ranks(board, HELPED, ranks), False)

    def test_they_may_fall_by_more_than_one(self):
        self.assertIs(are_ranks(example(), HELPED, {"a": 90, "b": 50, "c": 3}), True)

    def test_the_start_is_among_them(self):
        board = example()
        self.assertIs(are_ranks(board, HELPED, {"b": 1, "c": 0}), False)
        self.assertIs(are_ranks(board, HELPED, {"c": 0}), False)
        self.assertIs(are_ranks(board, HELPED, {}), False)

    def test_all_that_is_needed_is_in_the_dict(self):
        board = example()
        self.assertIs(are_ranks(board, HELPED, {"a": 2, "b": 1}), False)
        self.assertIs(are_ranks(board, HELPED, {"a": 2, "c": 0}), False)
        self.assertIs(are_ranks(board, HELPED, {"a": 2}), False)

    def test_forbidden_moves_count(self):
        board = example()
        ranks = {"a": 2, "b": 1, "c": 0}
        self.assertEqual([are_ranks(board, forbidden, ranks) for forbidden in sets_of(board)],
                         [False, True, False, False])

    def test_a_goal_may_have_any_number_and_any_moves(self):
        for owner in (1, 2):
            board = made({"a": (owner, "b", True), "b": (1, "", False)}, "a")
            for number in (0, 1, 10 ** 20):
                self.assertIs(are_ranks(board, (), {"a": number}), True)

    def test_a_field_of_the_second_player_without_moves(self):
        board = made({"a": (2, "", False)}, "a")
        self.assertIs(are_ranks(board, (), {"a": 0}), True)
        self.assertIs(are_ranks(board, (), {"a": 4}), True)
        board = made({"a": (2, "a", False)}, "a", [(("a", "a"), 1)])
        self.assertIs(are_ranks(board, (), {"a": 4}), False)
        self.assertIs(are_ranks(board, (("a", "a"),), {"a": 4}), True)

    def test_a_field_of_the_first_player_without_moves(self):
        self.assertIs(are_ranks(made({"a": (1, "", False)}, "a"), (), {"a": 0}), False)
        board = made({"a": (1, "b", False), "b": (1, "", True)}, "a", [(("a", "b"), 1)])
        self.assertIs(are_ranks(board, (), {"a": 1, "b": 0}), True)
        self.assertIs(are_ranks(board, (("a", "b"),), {"a": 1, "b": 0}), False)

    def test_one_move_of_the_first_player_and_each_one_of_the_second(self):
        for owner, expected in [(1, True), (2, False)]:
            board = made({"a": (owner, "bc", False), "b": (1, "", True), "c": (1, "", False)}, "a")
            self.assertIs(are_ranks(board, (), {"a": 1, "b": 0}), expected)
        board = made({"a": (2, "bc", False), "b": (1, "", True), "c": (1, "", True)}, "a")
        self.assertIs(are_ranks(board, (), {"a": 2, "b": 1, "c": 0}), True)
        self.assertIs(are_ranks(board, (), {"a": 1, "b": 1, "c": 0}), False)
        self.assertIs(are_ranks(board, (), {"a": 1, "b": 0, "c": 1}), False)

    def test_each_field_in_the_dict_must_fit(self):
        board = made({"a": (1, "b", False), "b": (1, "", True), "c": (1, "", False)}, "a")
        self.assertIs(are_ranks(board, (), {"a": 1, "b": 0}), True)
        self.assertIs(are_ranks(board, (), {"a": 1, "b": 0, "c": 5}), False)
        self.assertIs(are_ranks(board, (), {"c": 5, "a": 1, "b": 0}), False)

    def test_eight_fields(self):
        names = "abcdefgh"
        raw = {name: (1 + at % 2, names[at + 1:at + 2], at == 7) for at, name in enumerate(names)}
        self.assertIs(are_ranks(made(raw, "a"), (), {name: 7 - at for at, name in enumerate(names)}), True)
        self.assertIs(are_ranks(made(raw, "a"), (), {name: at for at, name in enumerate(names)}), False)

    def test_all_small_dicts_against_the_words(self):
        for raw, board in some_boards(70, most_fields=3, seed=5):
            for forbidden in sets_of(board)[:8]:
                found = False
                for ranks in dicts_over(list(raw), [0, 1, 2]):
                    expected = ranks_by_the_words(raw, board.start, forbidden, ranks)
                    found = found or expected
                    self.assertIs(are_ranks(board, forbidden, ranks), expected)
                self.assertIs(is_winning(board, forbidden), found)

    def test_distances_are_ranks_if_the_start_has_one(self):
        for _, board in some_boards(150, seed=6):
            for forbidden in sets_of(board)[:16]:
                found = distances(board, forbidden)
                ranks = {name: found[name] for name in reversed(board.names) if found[name] is not None}
                self.assertIs(are_ranks(board, forbidden, ranks), found[board.start] is not None)

    def test_arguments_by_name(self):
        self.assertIs(are_ranks(board=example(), forbidden=HELPED, ranks={"a": 2, "b": 1, "c": 0}), True)


class Refusing(unittest.TestCase):
    def refuse(self, ranks, forbidden=HELPED):
        with self.assertRaises(BadRanks):
            are_ranks(example(), forbidden, ranks)

    def test_what_is_not_a_dict(self):
        for ranks in [None, True, False, 0, 1, "a", "", b"a", ["a"], [], [("a", 1)], (), ("a",), (("a", 1),), {"a"},
                      set(), object(), dict]:
            self.refuse(ranks)

    def test_keys_that_are_not_fields(self):
        keys = [*NOT_NAMES, None, True, False, 0, 1, b"a", ("a",), (), ("a", "b"), "d", "ab", object(), frozenset("a")]
        for key in keys:
            self.refuse({key: 0})
            self.refuse({"a": 2, "b": 1, "c": 0, key: 0})
            self.refuse({key: 0, "a": 2, "b": 1, "c": 0})

    def test_numbers_that_are_none(self):
        for number in [-1, -5, -10 ** 20, True, False, None, "1", "", b"1", [1], [], (1,), {}, {1}, object(), int]:
            self.refuse({"a": number})
            self.refuse({"a": 2, "b": 1, "c": number})
            self.refuse({"c": number, "a": 2, "b": 1})
            self.refuse({"b": number})

    def test_what_is_no_ranks_but_a_dict_of_numbers_is_not_refused(self):
        self.assertIs(are_ranks(example(), HELPED, {"b": 0}), False)

    def test_a_refused_call_changes_nothing(self):
        ranks = {"a": 2, "b": True, 5: 0}
        self.refuse(ranks)
        self.assertEqual(list(ranks.items()), [("a", 2), ("b", True), (5, 0)])

    def test_what_is_not_a_set(self):
        board = example()
        for forbidden in not_sets(board):
            for ranks in [{"a": 2, "b": 1, "c": 0}, None, {"a": -1}, {"d": 0}]:
                with self.assertRaises(BadSet):
                    are_ranks(board, forbidden, ranks)

    def test_what_is_not_a_board(self):
        for board in NOT_BOARDS:
            for forbidden, ranks in [((), {"a": 0}), (None, {"a": 0}), ((), None), (5, 5)]:
                with self.assertRaises(BadBoard) as caught:
                    are_ranks(board, forbidden, ranks)
                self.assertIsNone(caught.exception.part)

    def test_the_keys_are_those_of_this_board(self):
        with self.assertRaises(BadRanks):
            are_ranks(made({"a": (1, "", True)}, "a"), (), {"a": 0, "b": 0})


if __name__ == "__main__":
    unittest.main()
