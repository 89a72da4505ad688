"""Point 5: distances and winning sets."""

import unittest

from forbidmoves.errors import BadBoard, BadSet
from forbidmoves.winning import distances, is_winning
from tests.helper import NOT_BOARDS, distance_of, example, made, not_sets, sets_of, some_boards


def chain(many, owner=1):
    """Return the board of a chain of fields, of which the last one is a goal."""
    names = "abcdefgh"[:many]
    raw = {name: (owner, names[at + 1:at + 2], at == many - 1) for at, name in enumerate(names)}
    return made(raw, "a", [((a, b), 1) for a, b in zip(names[:6], names[1:7])])


class Distances(unittest.TestCase):
    def test_a_goal_at_the_start(self):
        for owner in (1, 2):
            board = made({"a": (owner, "b", True), "b": (owner, "a", False)}, "a", [(("a", "b"), 1)])
            for forbidden in sets_of(board):
                self.assertEqual(distances(board, forbidden)["a"], 0)
                self.assertIs(is_winning(board, forbidden), True)

    def test_one_field(self):
        for owner, targets, goal, expected in [(1, "", False, None), (2, "", False, 0), (1, "", True, 0),
                                               (2, "", True, 0), (1, "a", False, None), (2, "a", False, None),
                                               (1, "a", True, 0), (2, "a", True, 0)]:
            board = made({"a": (owner, targets, goal)}, "a")
            self.assertEqual(distances(board, ()), {"a": expected})
            self.assertIs(is_winning(board, ()), expected is not None)

    def test_a_move_to_its_own_field_forbidden(self):
        for owner, expected in [(1, None), (2, 0)]:
            board = made({"a": (owner, "a", False)}, "a", [(("a", "a"), 1)])
            self.assertEqual(distances(board, (("a", "a"),)), {"a": expected})

    def test_no_moves_left(self):
        raw = {"a": (2, "bc", False), "b": (1, "a", False), "c": (2, "", False)}
        board = made(raw, "a", [(("a", "b"), 1), (("a", "c"), 1)])
        self.assertEqual(distances(board, ()), {"a": None, "b": None, "c": 0})
        self.assertEqual(distances(board, (("a", "b"),)), {"a": 1, "b": 2, "c": 0})
        self.assertEqual(distances(board, (("a", "b"), ("a", "c"))), {"a": 0, "b": 1, "c": 0})

    def test_the_first_player_takes_the_shortest_way_and_the_second_one_the_longest(self):
        for owner, expected in [(1, 1), (2, 3)]:
            raw = {"a": (owner, "bd", False), "b": (1, "c", False), "c": (2, "d", False), "d": (1, "", True)}
            self.assertEqual(distances(made(raw, "a"), ()), {"a": expected, "b": 2, "c": 1, "d": 0})

    def test_the_longest_chain(self):
        for owner in (1, 2):
            board = chain(8, owner)
            self.assertEqual(distances(board, ()), {name: 7 - at for at, name in enumerate("abcdefgh")})
            self.assertIs(is_winning(board, ()), True)

    def test_set_of_all_prices(self):
        board = chain(8)
        every = tuple(board.moves)
        self.assertEqual(len(every), 6)
        self.assertEqual(distances(board, every), {**{name: None for name in "abcdef"}, "g": 1, "h": 0})
        self.assertIs(is_winning(board, every), False)
        self.assertEqual(distances(chain(8, 2), every), {**{name: 0 for name in "abcdef"}, "g": 1, "h": 0})

    def test_forbidding_a_move_can_help_and_spoil(self):
        board = example()
        self.assertEqual([is_winning(board, forbidden) for forbidden in sets_of(board)], [False, True, False, False])

    def test_the_order_is_that_of_the_board(self):
        raw = {"d": (1, "b", False), "b": (2, "c", False), "c": (1, "a", True), "a": (2, "a", False)}
        self.assertEqual(list(distances(made(raw, "c"), ()).items()), [("d", 2), ("b", 1), ("c", 0), ("a", None)])

    def test_kinds(self):
        found = distances(example(), (("b", "a"),))
        self.assertIs(type(found), dict)
        self.assertEqual([type(found[name]) for name in "abc"], [int, int, int])
        self.assertIsNone(distances(example(), ())["a"])

    def test_fields_that_the_token_cannot_reach_have_distances_too(self):
        board = made({"a": (1, "a", False), "b": (1, "c", False), "c": (1, "", True)}, "a")
        self.assertEqual(distances(board, ()), {"a": None, "b": 1, "c": 0})
        self.assertIs(is_winning(board, ()), False)

    def test_some_boards_against_the_definition(self):
        for raw, board in some_boards(250, seed=2):
            for forbidden in sets_of(board)[:16]:
                found = distances(board, forbidden)
                self.assertEqual(list(found.items()), [(name, distance_of(raw, forbidden, name)) for name in raw])
                self.assertIs(is_winning(board, forbidden), found[board.start] is not None)

    def test_a_board_without_the_moves_has_the_same_distances(self):
        for _, board in some_boards(100, seed=3):
            for forbidden in sets_of(board):
                self.assertEqual(distances(board - forbidden, ()), distances(board, forbidden))

    def test_arguments_by_name(self):
        self.assertEqual(distances(board=example(), forbidden=())["c"], 0)
        self.assertIs(is_winning(board=example(), forbidden=()), False)

    def test_the_dict_is_new(self):
        board = example()
        first = distances(board, ())
        first["a"] = 5
        del first["c"]
        self.assertEqual(distances(board, ()), {"a": None, "b": None, "c": 0})

    def test_what_is_not_a_board(self):
        for function in (distances, is_winning):
            for board in NOT_BOARDS:
                for forbidden in [(), None, [], (("a", "b"),)]:
                    with self.assertRaises(BadBoard) as caught:
                        function(board, forbidden)
                    self.assertIsNone(caught.exception.part)

    def test_what_is_not_a_set(self):
        board = example()
        for function in (distances, is_winning):
            for forbidden in not_sets(board):
                with self.assertRaises(BadSet):
                    function(board, forbidden)


if __name__ == "__main__":
    unittest.main()
