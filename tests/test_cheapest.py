"""Point 8: what `cheapest` answers, and what `Forbidding` and `NoForbidding` are."""

import unittest

from forbidmoves.boards import Board, Field
from forbidmoves.errors import BadBoard
from forbidmoves.forbidding import Forbidding, NoForbidding, cheapest
from tests.helper import (NOT_BOARDS, at_goal, caught_by_the_words, cost_by_the_words, example, largest, lost, made,
                          mixed_boards, ranks_by_the_words, sets_of, some_boards, spoiled, two_ways, wins)


def cheaper(board, cost):
    return [chosen for chosen in sets_of(board) if cost_by_the_words(board, chosen) < cost]


def raw_of(board):
    return {name: (board[name].owner, board[name].targets, board[name].goal) for name in board.names}


class Answers(unittest.TestCase):
    """The set, worked out by hand; its ranks and traps, by the words of points 6 and 7."""

    def assert_cheapest(self, board, forbidden):
        found = cheapest(board)
        self.assertIsInstance(found, Forbidding)
        self.assertEqual(found.forbidden, forbidden)
        raw = raw_of(board)
        self.assertTrue(ranks_by_the_words(raw, board.start, forbidden, found.ranks))
        dearer = cheaper(board, cost_by_the_words(board, forbidden))
        self.assertTrue(caught_by_the_words(raw, board.start, found.traps, dearer))
        self.assertIs(found.shows(board), True)
        return found

    def assert_none(self, board):
        found = cheapest(board)
        self.assertIsInstance(found, NoForbidding)
        self.assertTrue(caught_by_the_words(raw_of(board), board.start, found.traps, sets_of(board)))
        self.assertIs(found.shows(board), True)
        return found

    def test_the_example(self):
        self.assert_cheapest(example(), (("b", "a"),))

    def test_the_least_cost_not_the_fewest_moves(self):
        self.assert_cheapest(two_ways(1, 2, 4), (("c", "d"), ("c", "e")))
        self.assert_cheapest(two_ways(4, 4, 9), (("c", "d"), ("c", "e")))

    def test_fewer_moves_of_the_same_cost(self):
        self.assert_cheapest(two_ways(1, 2, 3), (("b", "d"),))
        self.assert_cheapest(two_ways(4, 5, 9), (("b", "d"),))

    def test_fewer_moves_of_less_cost(self):
        self.assert_cheapest(two_ways(1, 2, 2), (("b", "d"),))

    def test_the_first_one_of_the_same_cost_and_number(self):
        raw = {"a": (1, "bc", False), "b": (2, "gd", False), "c": (2, "gd", False), "d": (1, "", False),
               "g": (1, "", True)}
        moves = [("b", "d"), ("c", "d")]
        self.assert_cheapest(made(raw, "a", [(move, 5) for move in moves]), (moves[0],))
        self.assert_cheapest(made(raw, "a", [(move, 5) for move in moves[::-1]]), (moves[1],))

    def test_pairs_of_the_same_cost(self):
        raw = {"a": (1, "bc", False), "b": (2, "gde", False), "c": (2, "gde", False), "d": (1, "", False),
               "e": (1, "", False), "g": (1, "", True)}
        bd, be, cd, ce = ("b", "d"), ("b", "e"), ("c", "d"), ("c", "e")
        self.assert_cheapest(made(raw, "a", [(cd, 2), (bd, 2), (be, 2), (ce, 2)]), (cd, ce))
        self.assert_cheapest(made(raw, "a", [(bd, 2), (cd, 2), (ce, 2), (be, 2)]), (bd, be))
        self.assert_cheapest(made(raw, "a", [(bd, 1), (cd, 3), (ce, 1), (be, 3)]), (bd, be))
        self.assert_cheapest(made(raw, "a", [(bd, 2), (cd, 1), (ce, 2), (be, 2)]), (cd, ce))

    def test_moves_of_the_first_player_do_not_help(self):
        self.assert_cheapest(spoiled(), (("b", "d"),))

    def test_the_empty_set_is_the_cheapest(self):
        for board in [at_goal(), made({"a": (2, "", False)}, "a"),
                      made({"a": (2, "b", False), "b": (2, "", False)}, "a", [(("a", "b"), 1)]),
                      made({"a": (1, "ab", False), "b": (1, "", True)}, "a", [(("a", "a"), 1), (("a", "b"), 1)])]:
            self.assert_cheapest(board, ())

    def test_the_start_is_a_goal(self):
        found = self.assert_cheapest(at_goal(), ())
        self.assertIn("a", found.ranks)

    def test_no_set_is_winning(self):
        for board in [lost(), made({"a": (1, "a", False)}, "a", [(("a", "a"), 9)]),
                      made({"a": (2, "ab", False), "b": (1, "b", False)}, "a", [(("a", "a"), 1)])]:
            self.assert_none(board)

    def test_without_prices(self):
        self.assert_cheapest(made({"a": (1, "b", False), "b": (2, "", True)}, "a"), ())
        self.assert_none(made({"a": (1, "a", False)}, "a"))
        self.assert_none(made({"a": (1, "", False)}, "a"))

    def test_the_second_player_is_left_without_moves(self):
        board = made({"a": (2, "ab", False), "b": (1, "b", False)}, "a", [(("a", "b"), 9), (("a", "a"), 9)])
        self.assert_cheapest(board, (("a", "b"), ("a", "a")))

    def test_the_largest(self):
        board = largest()
        found = self.assert_cheapest(board, tuple(board.moves))
        # With any one of the six moves left, only the answer along it holds.
        self.assertGreaterEqual(len(found.traps), 6)

    def test_the_largest_that_no_set_wins(self):
        raw = {"s": (2, "abcdefg", False), **{name: (1, "", False) for name in "abcdefg"}}
        self.assert_none(made(raw, "s", [(("s", name), 9) for name in "abcdef"]))
        raw = {"s": (1, "abcdefg", False), **{name: (1, "s", False) for name in "abcdefg"}}
        self.assert_none(made(raw, "s", [(("s", name), 1) for name in "abcdef"]))

    def test_the_largest_that_has_ties(self):
        raw = {"s": (1, "abcdef", False), **{name: (2, "gs", False) for name in "abcdef"}, "g": (1, "", True)}
        moves = [("f", "s"), ("b", "s"), ("d", "s"), ("c", "s"), ("e", "s")]
        board = made(raw, "s", [*zip(moves, [8, 7, 7, 8, 7]), (("s", "b"), 1)])
        self.assert_cheapest(board, (("b", "s"),))

    def test_boards_without_the_moves_that_were_found(self):
        for board in [example(), largest(), two_ways(1, 2, 3), two_ways(1, 1, 3), spoiled()]:
            self.assert_cheapest(board - cheapest(board).forbidden, ())

    def test_against_the_words(self):
        for raw, board in [*some_boards(120, seed=31), *mixed_boards(100, seed=32)]:
            won = [chosen for chosen in sets_of(board) if wins(raw, board.start, chosen)]
            if won:
                least = min(cost_by_the_words(board, chosen) for chosen in won)
                first = next(chosen for chosen in won if cost_by_the_words(board, chosen) == least)
                self.assert_cheapest(board, first)
            else:
                self.assert_none(board)

    def test_the_same_answer_each_time(self):
        for _, board in mixed_boards(20, seed=33):
            self.assertTrue(cheapest(board) == cheapest(board))
        self.assertTrue(cheapest(lost()) == cheapest(lost()))

    def test_what_is_not_a_board(self):
        for wrong in NOT_BOARDS:
            with self.assertRaises(BadBoard) as caught:
                cheapest(wrong)
            self.assertIsNone(caught.exception.part)

    def test_the_argument_by_name(self):
        self.assertEqual(cheapest(board=example()).forbidden, (("b", "a"),))

    def test_kinds_of_the_attributes(self):
        found = cheapest(two_ways(1, 2, 4))
        self.assertEqual([type(value) for value in (found.forbidden, found.ranks, found.traps)], [tuple, dict, list])
        self.assertEqual({type(move) for move in found.forbidden}, {tuple})
        self.assertEqual({type(item) for item in found.traps}, {dict})
        self.assertEqual({type(rank) for rank in found.ranks.values()}, {int})
        self.assertEqual(type(cheapest(lost()).traps), list)


class Objects(unittest.TestCase):
    def parts(self):
        return (("b", "a"),), {"c": 0, "b": 1, "a": 2}, [{"a": None, "b": "a"}, {"b": "a", "a": None}]

    def test_attributes(self):
        found = Forbidding(*self.parts())
        self.assertEqual((found.forbidden, found.ranks, found.traps), self.parts())
        self.assertEqual(NoForbidding(self.parts()[2]).traps, self.parts()[2])

    def test_arguments_by_name(self):
        forbidden, ranks, traps = self.parts()
        found = Forbidding(traps=traps, forbidden=forbidden, ranks=ranks)
        self.assertEqual((found.forbidden, found.ranks, found.traps), self.parts())
        self.assertEqual(NoForbidding(traps=traps).traps, traps)
        self.assertIs(found.shows(board=example()), True)

    def test_the_lists_and_dicts_are_copied(self):
        forbidden, ranks, traps = self.parts()
        found, none = Forbidding(forbidden, ranks, traps), NoForbidding(traps)
        ranks["a"] = 99
        traps[0]["a"] = "b"
        del traps[1]
        traps.append({})
        self.assertEqual((found.forbidden, found.ranks, found.traps), self.parts())
        self.assertEqual(none.traps, self.parts()[2])

    def test_arguments_are_not_modified(self):
        forbidden, ranks, traps = self.parts()
        found, none = Forbidding(forbidden, ranks, traps), NoForbidding(traps)
        found.shows(example())
        none.shows(example())
        found.ranks.clear()
        found.traps[0].clear()
        found.traps.pop()
        none.traps[0]["c"] = None
        none.traps.clear()
        self.assertEqual((forbidden, ranks, traps), self.parts())
        self.assertEqual(list(ranks), ["c", "b", "a"])

    def test_two_of_one_list_do_not_share(self):
        traps = self.parts()[2]
        first, second = NoForbidding(traps), NoForbidding(traps)
        first.traps[0].clear()
        self.assertEqual(second.traps, self.parts()[2])
        shared = {"a": None}
        both = NoForbidding([shared, shared])
        both.traps[0]["b"] = "a"
        self.assertEqual(both.traps, [{"a": None, "b": "a"}, {"a": None}])

    def test_equal_ones(self):
        self.assertTrue(Forbidding(*self.parts()) == Forbidding(*self.parts()))
        self.assertFalse(Forbidding(*self.parts()) != Forbidding(*self.parts()))
        self.assertTrue(NoForbidding(self.parts()[2]) == NoForbidding(self.parts()[2]))
        self.assertTrue(NoForbidding([]) == NoForbidding([]))
        forbidden, _, traps = self.parts()
        self.assertTrue(Forbidding(forbidden, {"a": 2, "b": 1, "c": 0}, traps) == Forbidding(*self.parts()))

    def test_each_attribute_counts(self):
        forbidden, ranks, traps = self.parts()
        found = Forbidding(forbidden, ranks, traps)
        for other in [Forbidding((), ranks, traps), Forbidding((("a", "b"),), ranks, traps),
                      Forbidding(forbidden, {**ranks, "a": 3}, traps), Forbidding(forbidden, {}, traps),
                      Forbidding(forbidden, {"b": 1, "c": 0}, traps), Forbidding(forbidden, ranks, []),
                      Forbidding(forbidden, ranks, traps[:1]), Forbidding(forbidden, ranks, traps + traps[:1]),
                      Forbidding(forbidden, ranks, [{"a": None}, traps[1]])]:
            self.assertFalse(found == other)
            self.assertTrue(found != other)
        for other in [NoForbidding([]), NoForbidding(traps[:1]), NoForbidding([traps[0], {"a": None}])]:
            self.assertFalse(NoForbidding(traps) == other)
            self.assertTrue(NoForbidding(traps) != other)

    def test_the_order_of_the_traps_counts(self):
        first, second = {"a": None}, {"a": None, "b": "a"}
        self.assertFalse(NoForbidding([first, second]) == NoForbidding([second, first]))
        self.assertFalse(Forbidding((), {}, [first, second]) == Forbidding((), {}, [second, first]))

    def test_current_attributes_count(self):
        first, second = Forbidding(*self.parts()), Forbidding(*self.parts())
        first.ranks["a"] = 3
        self.assertFalse(first == second)
        second.ranks = {"a": 3, "b": 1, "c": 0}
        self.assertTrue(first == second)


class Shows(unittest.TestCase):
    """Answers for `two_ways(1, 2, 4)`, right ones and ones with one part changed."""

    FORBIDDEN = (("c", "d"), ("c", "e"))
    RANKS = {"a": 2, "c": 1, "g": 0}
    TRAPS = [{"a": None, "b": "d", "c": "d", "d": None}, {"a": None, "b": "d", "c": "e", "d": None, "e": None}]

    def shows(self, forbidden=FORBIDDEN, ranks=RANKS, traps=TRAPS, board=None):
        return Forbidding(forbidden, ranks, traps).shows(two_ways(1, 2, 4) if board is None else board)

    def test_a_right_answer(self):
        self.assertIs(self.shows(), True)
        self.assertIs(self.shows(traps=self.TRAPS[::-1]), True)

    def test_another_set(self):
        one, two, three = two_ways(1, 2, 4).moves
        self.assertIs(self.shows(forbidden=()), False)
        self.assertIs(self.shows(forbidden=(one,)), False)
        self.assertIs(self.shows(forbidden=(two,)), False)
        self.assertIs(self.shows(forbidden=(three,)), False)
        self.assertIs(self.shows(forbidden=(one, two, three)), False)

    def test_a_winning_set_that_costs_more(self):
        three = (("b", "d"),)
        ranks = {"a": 2, "b": 1, "g": 0}
        self.assertIs(self.shows(forbidden=three, ranks=ranks), False)
        self.assertIs(self.shows(forbidden=three, ranks=ranks, board=two_ways(1, 2, 3)), True)
        self.assertIs(self.shows(forbidden=three, ranks=ranks, board=two_ways(1, 2, 2)), True)

    def test_the_set_need_not_be_the_first_one(self):
        board = two_ways(1, 2, 3)
        self.assertEqual(cheapest(board).forbidden, (("b", "d"),))
        self.assertIs(self.shows(board=board), True)

    def test_the_cost_counts_not_the_set_alone(self):
        self.assertIs(self.shows(board=two_ways(2, 2, 4)), True)
        self.assertIs(self.shows(board=two_ways(2, 2, 3)), False)
        self.assertIs(self.shows(board=two_ways(9, 9, 1)), False)

    def test_other_right_ranks(self):
        self.assertIs(self.shows(ranks={"g": 0, "c": 1, "a": 2}), True)
        self.assertIs(self.shows(ranks={"g": 5, "c": 6, "a": 1000000}), True)

    def test_one_rank_changed(self):
        for name, rank in [("a", 1), ("a", 0), ("c", 0), ("c", 2), ("g", 1), ("g", 2)]:
            self.assertIs(self.shows(ranks={**self.RANKS, name: rank}), False)

    def test_a_rank_that_is_missing(self):
        for name in self.RANKS:
            self.assertIs(self.shows(ranks={key: self.RANKS[key] for key in self.RANKS if key != name}), False)
        self.assertIs(self.shows(ranks={}), False)

    def test_an_additional_rank(self):
        for name in "bde":
            self.assertIs(self.shows(ranks={**self.RANKS, name: 50}), False)

    def test_a_trap_that_is_missing(self):
        self.assertIs(self.shows(traps=self.TRAPS[:1]), False)
        self.assertIs(self.shows(traps=self.TRAPS[1:]), False)
        self.assertIs(self.shows(traps=[]), False)

    def test_one_trap_changed(self):
        first, second = self.TRAPS
        for changed in [{**first, "c": "e"}, {**first, "b": "g"}, {**first, "d": "d"}, {**first, "c": None},
                        {"a": None}, {**first, "e": None, "c": "e"}, {"b": "d", "c": "d", "d": None},
                        {"a": None, "c": "d", "d": None}, {**first, "g": None}, {**first, "g": "a"}, {}]:
            self.assertIs(self.shows(traps=[changed, second]), False)

    def test_an_additional_trap(self):
        for more in [self.TRAPS[0], {**self.TRAPS[1], "c": "d"}, {"a": None}, {"a": None, "e": None}]:
            self.assertIs(self.shows(traps=[more] + self.TRAPS), True)
            self.assertIs(self.shows(traps=self.TRAPS + [more]), True)

    def test_an_additional_item_that_is_no_trap(self):
        for more in [{}, {"d": None}, {"a": "b"}, {"a": None, "b": None}, {"a": None, "b": "d"},
                     {"a": None, "g": None}]:
            self.assertIs(self.shows(traps=[more] + self.TRAPS), False)
            self.assertIs(self.shows(traps=self.TRAPS + [more]), False)

    def test_a_trap_against_the_set_itself_is_not_asked_for(self):
        board = example()
        right = Forbidding((("b", "a"),), {"a": 2, "b": 1, "c": 0}, [{"a": None, "b": "a"}])
        self.assertIs(right.shows(board), True)

    def test_no_traps_are_needed_against_what_does_not_cost_less(self):
        self.assertIs(Forbidding((), {"a": 0}, []).shows(at_goal()), True)
        self.assertIs(Forbidding((), {"a": 0}, [{"b": None}]).shows(at_goal()), False)
        self.assertIs(Forbidding((("a", "b"),), {"a": 0}, []).shows(at_goal()), False)

    def test_several_traps_that_hold_together(self):
        board = made({"a": (2, "bc", False), "b": (1, "", False), "c": (1, "", True)}, "a", [(("a", "b"), 1)])
        right = {"a": "b", "b": None}
        self.assertIs(Forbidding((("a", "b"),), {"a": 1, "c": 0}, [right]).shows(board), True)
        self.assertIs(Forbidding((("a", "b"),), {"a": 1, "c": 0}, [{"a": "b"}]).shows(board), False)

    def test_current_attributes_count(self):
        found = cheapest(two_ways(1, 2, 4))
        board = two_ways(1, 2, 4)
        found.ranks["a"] = 0
        self.assertIs(found.shows(board), False)
        found.ranks = dict(self.RANKS)
        self.assertIs(found.shows(board), True)
        found.traps.append({})
        self.assertIs(found.shows(board), False)
        found.traps.pop()
        self.assertIs(found.shows(board), True)
        found.traps = []
        self.assertIs(found.shows(board), False)
        found.traps = [dict(item) for item in self.TRAPS]
        found.forbidden = (("b", "d"),)
        self.assertIs(found.shows(board), False)
        found.forbidden = self.FORBIDDEN
        self.assertIs(found.shows(board), True)
        found.traps[0]["c"] = None
        self.assertIs(found.shows(board), False)

    def test_shows_changes_nothing(self):
        found = cheapest(two_ways(1, 2, 4))
        before = cheapest(two_ways(1, 2, 4))
        board = two_ways(1, 2, 4)
        found.shows(board)
        found.shows(two_ways(3, 3, 1))
        self.assertTrue(found == before)
        self.assertTrue(board == two_ways(1, 2, 4))

    def test_what_is_not_a_board(self):
        for found in [cheapest(example()), cheapest(lost()), Forbidding((), {}, []), NoForbidding([])]:
            for wrong in NOT_BOARDS:
                with self.assertRaises(BadBoard) as caught:
                    found.shows(wrong)
                self.assertIsNone(caught.exception.part)


class ShowsNone(unittest.TestCase):
    def test_right_answers(self):
        # The second player cannot be kept from b, and the first one has no goal.
        board = lost()
        self.assertIs(NoForbidding([{"a": None, "b": "a"}]).shows(board), True)
        self.assertIs(NoForbidding([{"a": None, "b": "b"}, {"a": None, "b": "a"}]).shows(board), True)
        self.assertIs(NoForbidding([{"a": None, "b": "a"}, {"a": None}]).shows(board), True)

    def test_a_trap_that_is_missing(self):
        self.assertIs(NoForbidding([]).shows(lost()), False)
        self.assertIs(NoForbidding([{"a": None, "b": "b"}]).shows(lost()), False)
        self.assertIs(NoForbidding([{"a": None}]).shows(lost()), False)
        self.assertIs(NoForbidding([{"a": None}, {"a": None, "b": "b"}]).shows(lost()), False)

    def test_only_the_whole_set_is_left(self):
        board = made({"a": (2, "ab", False), "b": (1, "", False)}, "a", [(("a", "a"), 1)])
        self.assertIs(NoForbidding([{"a": "a"}]).shows(board), False)
        self.assertIs(NoForbidding([{"a": "a"}, {"a": "b", "b": None}]).shows(board), True)
        self.assertIs(NoForbidding([{"a": "b", "b": None}]).shows(board), True)

    def test_an_item_that_is_no_trap(self):
        for wrong in [{}, {"b": "a"}, {"a": "b"}, {"a": None, "b": None}]:
            self.assertIs(NoForbidding([{"a": None, "b": "a"}, wrong]).shows(lost()), False)

    def test_boards_with_a_winning_set(self):
        traps = [{"a": None, "b": "a"}, {"a": None}]
        self.assertIs(NoForbidding(traps).shows(example()), False)
        self.assertIs(NoForbidding([]).shows(made({"a": (1, "", True)}, "a")), False)

    def test_boards_without_prices(self):
        self.assertIs(NoForbidding([{"a": None}]).shows(made({"a": (1, "a", False)}, "a")), True)
        self.assertIs(NoForbidding([]).shows(made({"a": (1, "a", False)}, "a")), False)

    def test_current_attributes_count(self):
        found = cheapest(lost())
        found.traps.append({})
        self.assertIs(found.shows(lost()), False)
        found.traps = [{"a": None, "b": "a"}]
        self.assertIs(found.shows(lost()), True)
        found.traps[0]["b"] = "b"
        self.assertIs(found.shows(lost()), False)


class Altered(unittest.TestCase):
    """Each small change of an answer, judged by the words."""

    def changed_dicts(self, names, given, values):
        for name in names:
            yield {key: given[key] for key in given if key != name}
            for value in values:
                yield {**given, name: value}

    def shows_by_the_words(self, raw, board, forbidden, ranks, traps):
        sets = cheaper(board, cost_by_the_words(board, forbidden))
        return (ranks_by_the_words(raw, board.start, forbidden, ranks)
                and caught_by_the_words(raw, board.start, traps, sets))

    def test_sets(self):
        for raw, board in mixed_boards(25, seed=41):
            found = cheapest(board)
            for forbidden in sets_of(board):
                self.assertIs(Forbidding(forbidden, found.ranks, found.traps).shows(board),
                              self.shows_by_the_words(raw, board, forbidden, found.ranks, found.traps))

    def test_ranks(self):
        for raw, board in mixed_boards(25, seed=42):
            found = cheapest(board)
            for ranks in self.changed_dicts(board.names, found.ranks, [0, 1, 2, 3, 9]):
                self.assertIs(Forbidding(found.forbidden, ranks, found.traps).shows(board),
                              self.shows_by_the_words(raw, board, found.forbidden, ranks, found.traps))

    def test_traps(self):
        for raw, board in mixed_boards(15, seed=43):
            found = cheapest(board)
            for at, given in enumerate(found.traps):
                for item in self.changed_dicts(board.names, given, [None, *board.names]):
                    for traps in [found.traps[:at] + [item] + found.traps[at + 1:], found.traps + [item]]:
                        self.assertIs(Forbidding(found.forbidden, found.ranks, traps).shows(board),
                                      self.shows_by_the_words(raw, board, found.forbidden, found.ranks, traps))
                        self.assertIs(NoForbidding(traps).shows(board), False)

    def test_traps_against_all_sets(self):
        many = 0
        for raw, board in some_boards(120, most_fields=5, seed=44):
            found = cheapest(board)
            if isinstance(found, NoForbidding) and len(board) > 1:
                many += 1
                for at, given in enumerate(found.traps):
                    for item in self.changed_dicts(board.names, given, [None, *board.names]):
                        traps = found.traps[:at] + [item] + found.traps[at + 1:]
                        self.assertIs(NoForbidding(traps).shows(board),
                                      caught_by_the_words(raw, board.start, traps, sets_of(board)))
        self.assertGreater(many, 10)


class Boards(unittest.TestCase):
    def test_answers_of_another_board(self):
        fields = {"a": Field(1, "b"), "b": Field(2, "a", "c"), "c": Field(1, goal=True)}
        found = cheapest(example())
        self.assertIs(found.shows(Board(fields, "a", {("a", "b"): 9, ("b", "a"): 9})), True)
        self.assertIs(found.shows(Board(fields, "b", {("b", "a"): 2, ("a", "b"): 1})), True)
        fields["a"] = Field(1, "b", "c")
        self.assertIs(found.shows(Board(fields, "a", {("b", "a"): 2, ("a", "b"): 1})), False)
        fields["a"] = Field(2, "b")
        self.assertIs(found.shows(Board(fields, "a", {("b", "a"): 2})), False)


if __name__ == "__main__":
    unittest.main()
