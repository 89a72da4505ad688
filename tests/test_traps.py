"""Point 7: traps."""

import unittest

from forbidmoves.errors import BadBoard, BadSet, BadTrap
from forbidmoves.winning import holds, is_trap, is_winning, trap
from tests.helper import (NOT_BOARDS, NOT_NAMES, NOT_STRINGS, dicts_over, example, holds_by_the_words, made, not_sets,
                          sets_of, some_boards, trap_by_the_words)

HELPED = (("b", "a"),)
SPOILED = (("a", "b"),)


class Traps(unittest.TestCase):
    def test_traps_of_the_example(self):
        for found in [{"a": None}, {"a": None, "b": "a"}, {"b": "a", "a": None}]:
            self.assertIs(is_trap(example(), found), True)

    def test_the_start_is_among_them(self):
        board = made({"a": (1, "a", False), "b": (1, "b", False)}, "b")
        self.assertIs(is_trap(board, {"a": None}), False)
        self.assertIs(is_trap(board, {"a": None, "b": None}), True)
        self.assertIs(is_trap(board, {"b": None}), True)
        self.assertIs(is_trap(board, {}), False)

    def test_no_goal_is_in_it(self):
        self.assertIs(is_trap(example(), {"a": None, "c": None}), False)
        self.assertIs(is_trap(example(), {"c": None, "b": "a", "a": None}), False)
        for owner, target in [(1, None), (2, "a"), (2, None)]:
            board = made({"a": (owner, "a", True)}, "a")
            self.assertIs(is_trap(board, {"a": target}), False)

    def test_a_field_of_the_second_player_has_a_target(self):
        board = example()
        self.assertIs(is_trap(board, {"a": None, "b": None}), False)
        self.assertIs(is_trap(board, {"a": None, "b": "b"}), False)
        self.assertIs(is_trap(made({"a": (2, "", False)}, "a"), {"a": None}), False)
        self.assertIs(is_trap(made({"a": (2, "", False)}, "a"), {"a": "a"}), False)
        self.assertIs(is_trap(made({"a": (2, "a", False)}, "a"), {"a": "a"}), True)

    def test_that_target_is_in_the_dict_too(self):
        board = made({"a": (2, "ab", False), "b": (2, "ab", False)}, "a")
        self.assertIs(is_trap(board, {"a": "b"}), False)
        self.assertIs(is_trap(board, {"a": "b", "b": "a"}), True)
        self.assertIs(is_trap(board, {"a": "a"}), True)
        self.assertIs(is_trap(example(), {"a": None, "b": "c"}), False)

    def test_that_target_is_one_of_its_targets(self):
        board = made({"a": (2, "b", False), "b": (2, "b", False)}, "a")
        self.assertIs(is_trap(board, {"a": "a"}), False)
        self.assertIs(is_trap(board, {"a": "a", "b": "b"}), False)
        self.assertIs(is_trap(board, {"a": "b", "b": "b"}), True)

    def test_a_field_of_the_first_player_has_none(self):
        board = example()
        self.assertIs(is_trap(board, {"a": "b"}), False)
        self.assertIs(is_trap(board, {"a": "b", "b": "a"}), False)
        board = made({"a": (1, "a", False)}, "a")
        self.assertIs(is_trap(board, {"a": "a"}), False)
        self.assertIs(is_trap(board, {"a": None}), True)

    def test_priced_moves_are_targets_as_well(self):
        board = made({"a": (2, "a", False)}, "a", [(("a", "a"), 1)])
        self.assertIs(is_trap(board, {"a": "a"}), True)

    def test_arguments_by_name(self):
        self.assertIs(is_trap(board=example(), trap={"a": None}), True)
        self.assertIs(holds(board=example(), forbidden=SPOILED, trap={"a": None}), True)
        self.assertIsNone(trap(board=example(), forbidden=HELPED))


class Holding(unittest.TestCase):
    def test_the_example(self):
        board = example()
        self.assertEqual([holds(board, forbidden, {"a": None, "b": "a"}) for forbidden in sets_of(board)],
                         [True, False, True, False])
        self.assertEqual([holds(board, forbidden, {"a": None}) for forbidden in sets_of(board)],
                         [False, False, True, True])

    def test_what_is_not_a_trap_holds_against_no_set(self):
        board = example()
        for forbidden in sets_of(board):
            for wrong in [{}, {"b": "a"}, {"a": "b"}, {"a": None, "b": None}, {"a": None, "b": "a", "c": None},
                          {"c": None}, {"a": None, "b": "c"}, {"a": None, "b": "c", "c": None}]:
                self.assertIs(holds(board, forbidden, wrong), False)

    def test_all_moves_of_the_first_player_lead_to_fields_in_it(self):
        board = made({"a": (1, "ab", False), "b": (1, "", False)}, "a", [(("a", "b"), 1)])
        self.assertIs(holds(board, (), {"a": None}), False)
        self.assertIs(holds(board, (), {"a": None, "b": None}), True)
        self.assertIs(holds(board, (("a", "b"),), {"a": None}), True)

    def test_no_answer_is_forbidden(self):
        board = made({"a": (2, "ab", False), "b": (2, "a", False)}, "a", [(("a", "a"), 1), (("a", "b"), 1)])
        self.assertEqual([holds(board, forbidden, {"a": "a"}) for forbidden in sets_of(board)],
                         [True, False, True, False])
        self.assertEqual([holds(board, forbidden, {"a": "b", "b": "a"}) for forbidden in sets_of(board)],
                         [True, True, False, False])

    def test_other_moves_of_the_second_player_may_leave_it(self):
        board = made({"a": (2, "ab", False), "b": (1, "", True)}, "a")
        self.assertIs(holds(board, (), {"a": "a"}), True)

    def test_all_small_dicts_against_the_words(self):
        for raw, board in some_boards(70, most_fields=3, seed=7):
            found = list(dicts_over(list(raw), [None, *raw]))
            for candidate in found:
                self.assertIs(is_trap(board, candidate), trap_by_the_words(raw, board.start, candidate))
            for forbidden in sets_of(board)[:6]:
                some = False
                for candidate in found:
                    expected = holds_by_the_words(raw, board.start, forbidden, candidate)
                    some = some or expected
                    self.assertIs(holds(board, forbidden, candidate), expected)
                self.assertIs(is_winning(board, forbidden), not some)


class Finding(unittest.TestCase):
    def test_the_example(self):
        board = example()
        self.assertEqual(trap(board, ()), {"a": None, "b": "a"})
        self.assertIsNone(trap(board, HELPED))
        self.assertIsNone(trap(made({"a": (1, "", True)}, "a"), ()))
        self.assertIsNone(trap(made({"a": (2, "", False)}, "a"), ()))

    def test_one_field(self):
        self.assertEqual(trap(made({"a": (1, "", False)}, "a"), ()), {"a": None})
        self.assertEqual(trap(made({"a": (1, "a", False)}, "a"), ()), {"a": None})
        self.assertEqual(trap(made({"a": (2, "a", False)}, "a"), ()), {"a": "a"})

    def test_set_of_all_prices(self):
        board = example()
        self.assertTrue(holds(board, (("b", "a"), ("a", "b")), trap(board, (("b", "a"), ("a", "b")))))

    def test_the_answer_is_not_a_forbidden_move(self):
        board = made({"a": (2, "abc", False), "b": (2, "b", False), "c": (1, "", True)}, "a", [(("a", "a"), 1)])
        self.assertEqual(trap(board, (("a", "a"),)), {"a": "b", "b": "b"})

    def test_some_boards(self):
        for raw, board in some_boards(250, seed=8):
            for forbidden in sets_of(board)[:16]:
                found = trap(board, forbidden)
                if is_winning(board, forbidden):
                    self.assertIsNone(found)
                else:
                    self.assertIs(type(found), dict)
                    self.assertTrue(holds_by_the_words(raw, board.start, forbidden, found))
                    self.assertIs(is_trap(board, found), True)
                    self.assertIs(holds(board, forbidden, found), True)

    def test_the_dict_is_new(self):
        board = example()
        first = trap(board, ())
        first["a"] = "b"
        first["c"] = None
        del first["b"]
        self.assertEqual(trap(board, ()), {"a": None, "b": "a"})


class Refusing(unittest.TestCase):
    def refuse(self, wrong):
        with self.assertRaises(BadTrap):
            is_trap(example(), wrong)
        with self.assertRaises(BadTrap):
            holds(example(), SPOILED, wrong)

    def test_what_is_not_a_dict(self):
        for wrong in [None, True, False, 0, 1, "a", "", b"a", ["a"], [], [("a", None)], (), ("a",), (("a", None),),
                      {"a"}, set(), object(), dict]:
            self.refuse(wrong)

    def test_keys_that_are_not_fields(self):
        keys = [*NOT_NAMES, None, True, False, 0, 1, b"a", ("a",), (), ("a", "b"), "d", "ab", object(), frozenset("a")]
        for key in keys:
            self.refuse({key: None})
            self.refuse({"a": None, key: None})
            self.refuse({key: "a", "a": None})

    def test_targets_that_are_neither_fields_nor_none(self):
        for target in [*[value for value in NOT_STRINGS if value is not None], *NOT_NAMES, "d", "ab", (), [], {}]:
            self.refuse({"a": target})
            self.refuse({"a": None, "b": target})
            self.refuse({"b": target, "a": None})
            self.refuse({"c": target})

    def test_what_is_no_trap_but_of_the_kind_is_not_refused(self):
        for wrong in [{}, {"c": "c"}, {"b": None}, {"a": "c"}]:
            self.assertIs(is_trap(example(), wrong), False)
            self.assertIs(holds(example(), (), wrong), False)

    def test_a_refused_call_changes_nothing(self):
        wrong = {"a": None, "b": True, 5: None}
        self.refuse(wrong)
        self.assertEqual(list(wrong.items()), [("a", None), ("b", True), (5, None)])

    def test_what_is_not_a_set(self):
        board = example()
        for forbidden in not_sets(board):
            for candidate in [{"a": None}, {"a": "b"}, {}, None, [], {"d": None}, {"a": 5}]:
                with self.assertRaises(BadSet):
                    holds(board, forbidden, candidate)
            with self.assertRaises(BadSet):
                trap(board, forbidden)

    def test_what_is_not_a_board(self):
        calls = [lambda board: is_trap(board, {"a": None}), lambda board: is_trap(board, None),
                 lambda board: holds(board, (), {"a": None}), lambda board: holds(board, None, {"a": None}),
                 lambda board: holds(board, (), 5), lambda board: holds(board, 5, 5),
                 lambda board: trap(board, ()), lambda board: trap(board, None), lambda board: trap(board, [])]
        for board in NOT_BOARDS:
            for call in calls:
                with self.assertRaises(BadBoard) as caught:
                    call(board)
                self.assertIsNone(caught.exception.part)

    def test_the_names_are_those_of_this_board(self):
        board = made({"a": (1, "", False)}, "a")
        for wrong in [{"a": None, "b": None}, {"a": "b"}]:
            with self.assertRaises(BadTrap):
                is_trap(board, wrong)


if __name__ == "__main__":
    unittest.main()
