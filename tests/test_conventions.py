"""Point 1: what is neither modified nor kept, and what is new each time."""

import copy
import unittest

from forbidmoves.boards import Board, Field
from forbidmoves.errors import (BadBoard, BadField, BadName, BadPlay, BadRanks, BadSet, BadText, BadTrap, MoveError,
                                NoMove, NothingMoved, NotWinning)
from forbidmoves.forbidding import Forbidding, NoForbidding, breaches, cheapest, rescues, set_cost, winning_sets
from forbidmoves.games import Game
from forbidmoves.needs import needed, needless
from forbidmoves.texts import board_text, read_board
from forbidmoves.winning import are_ranks, distances, holds, is_trap, is_winning, trap
from tests.helper import NOT_BOARDS, example, largest, made, mixed_boards, sets_of, some_boards, spoiled, two_ways


def raw_parts():
    fields = {"a": Field(1, "b"), "b": Field(2, "a", "c"), "c": Field(1, goal=True)}
    return fields, {("b", "a"): 2, ("a", "b"): 1}


class Arguments(unittest.TestCase):
    def test_a_board_does_not_keep_its_fields(self):
        fields, prices = raw_parts()
        board = Board(fields, "a", prices)
        fields["a"] = Field(2, "c")
        fields["d"] = Field(1)
        del fields["c"]
        self.assertEqual(board, example())
        self.assertEqual(board.names, ["a", "b", "c"])
        self.assertEqual(board["a"], Field(1, "b"))
        self.assertEqual(distances(board, (("b", "a"),)), {"a": 2, "b": 1, "c": 0})

    def test_a_board_does_not_keep_its_prices(self):
        fields, prices = raw_parts()
        board = Board(fields, "a", prices)
        prices[("b", "a")] = 9
        prices[("b", "c")] = 1
        del prices[("a", "b")]
        self.assertEqual(board, example())
        self.assertEqual(board.moves, [("b", "a"), ("a", "b")])
        self.assertEqual(board.price(("b", "a")), 2)

    def test_a_board_does_not_modify_what_it_is_made_of(self):
        fields, prices = raw_parts()
        Board(fields, "a", prices)
        self.assertEqual(list(fields.items()), list(raw_parts()[0].items()))
        self.assertEqual(list(prices.items()), list(raw_parts()[1].items()))

    def test_the_targets_of_a_field_are_not_kept(self):
        targets = ["a", "b"]
        field = Field(1, *targets)
        targets.reverse()
        targets.append("c")
        self.assertEqual(field.targets, ("a", "b"))

    def test_dicts_that_are_asked_about_are_not_modified(self):
        board = example()
        ranks = {"c": 0, "b": 5, "a": 7}
        are_ranks(board, (("b", "a"),), ranks)
        are_ranks(board, (), ranks)
        self.assertEqual(list(ranks.items()), [("c", 0), ("b", 5), ("a", 7)])
        for given in [{"b": "a", "a": None}, {"b": "a"}, {"c": None, "a": None}]:
            before = list(given.items())
            is_trap(board, given)
            for forbidden in sets_of(board):
                holds(board, forbidden, given)
            self.assertEqual(list(given.items()), before)

    def test_dicts_that_make_what_is_missing_are_not_filled(self):
        class Filling(dict):
            def __missing__(self, key):
                self[key] = None
                return None

        board = example()
        given = Filling({"a": None})
        holds(board, (), given)
        is_trap(board, given)
        self.assertEqual(given, {"a": None})
        given = Filling({"a": 1})
        are_ranks(board, (), given)
        self.assertEqual(given, {"a": 1})

    def test_dicts_may_be_changed_and_asked_about_again(self):
        board = example()
        found = {"a": None}
        self.assertIs(holds(board, (), found), False)
        found["b"] = "a"
        self.assertIs(holds(board, (), found), True)
        ranks = {"a": 2, "b": 1, "c": 0}
        self.assertIs(are_ranks(board, (("b", "a"),), ranks), True)
        ranks["b"] = 2
        self.assertIs(are_ranks(board, (("b", "a"),), ranks), False)


class Returned(unittest.TestCase):
    def test_names(self):
        board = example()
        names = board.names
        names.reverse()
        names.append("z")
        self.assertEqual(board.names, ["a", "b", "c"])
        self.assertIs(type(board.names), list)
        self.assertIsNot(board.names, board.names)
        self.assertEqual(board, example())
        self.assertEqual(board(("a", "b")), ["a", "c"])

    def test_moves(self):
        board = example()
        moves = board.moves
        moves.clear()
        self.assertEqual(board.moves, [("b", "a"), ("a", "b")])
        self.assertIs(type(board.moves), list)
        self.assertIsNot(board.moves, board.moves)
        self.assertEqual([type(move) for move in board.moves], [tuple, tuple])
        self.assertEqual(board, example())
        self.assertIs(is_winning(board, (("b", "a"),)), True)

    def test_lists_and_dicts(self):
        board = example()
        for call in [lambda: board(("a", "b")), lambda: distances(board, ()), lambda: trap(board, ()),
                     lambda: board.names, lambda: board.moves]:
            before = copy.copy(call())
            call().clear()
            self.assertEqual(call(), before)
            self.assertIsNot(call(), call())

    def test_lists_of_sets_and_of_moves(self):
        board = spoiled()
        whole = tuple(board.moves)
        for call in [lambda: winning_sets(board), lambda: breaches(board), lambda: rescues(board),
                     lambda: needless(board, whole), lambda: needed(largest())]:
            before = copy.copy(call())
            self.assertTrue(before)
            call().clear()
            self.assertEqual(call(), before)
            self.assertIsNot(call(), call())
        self.assertEqual(winning_sets(board), winning_sets(spoiled()))

    def test_answers(self):
        board = two_ways(1, 2, 4)
        found = cheapest(board)
        found.ranks.clear()
        found.traps[0].clear()
        found.traps.pop()
        self.assertIs(found.shows(board), False)
        self.assertIs(cheapest(board).shows(board), True)
        self.assertTrue(cheapest(board) == cheapest(two_ways(1, 2, 4)))
        none = made({"a": (1, "a", False)}, "a")
        cheapest(none).traps.clear()
        self.assertIs(cheapest(none).shows(none), True)

    def test_games_and_paths(self):
        game = Game.after(example(), ("a", "b"))
        path = game.path
        game.move("a")
        self.assertEqual([path, game.path], [("a", "b"), ("a", "b", "a")])
        game.undo()
        self.assertEqual(path, ("a", "b"))

    def test_no_function_changes_a_board(self):
        for _, board in [*some_boards(20, seed=81), *mixed_boards(20, seed=82)]:
            text = board_text(board)
            for function in [winning_sets, breaches, rescues, needed, board_text]:
                list(function(board))
            found = cheapest(board)
            found.shows(board)
            for forbidden in sets_of(board):
                set_cost(board, forbidden)
                game = Game(board, forbidden)
                for name in board.names:
                    if name in game:
                        game.move(name)
                list(game.good())
                if is_winning(board, forbidden):
                    needless(board, forbidden)
            self.assertEqual(board_text(board), text)

    def test_boards_never_change(self):
        for _, board in some_boards(30, seed=9):
            before = copy.deepcopy(board)
            for forbidden in sets_of(board):
                distances(board, forbidden).clear()
                (trap(board, forbidden) or {}).clear()
                board((board.start,), forbidden).clear()
                is_winning(board, forbidden)
                board - forbidden
            self.assertTrue(board == before)
            self.assertEqual([list(board.names), board.start, board.moves], [before.names, before.start, before.moves])

    def test_the_fields_of_a_board_never_change(self):
        board = example()
        field = board["b"]
        -field
        board - (("b", "a"),)
        self.assertEqual(board["b"], Field(2, "a", "c"))
        self.assertEqual(field, Field(2, "a", "c"))


class Booleans(unittest.TestCase):
    """True and False in the place of a number, or of anything else."""

    def test_refused(self):
        board = example()
        fields, prices = raw_parts()
        calls = [
            (BadField, lambda: Field(True)), (BadField, lambda: Field(True, "a")), (BadField, lambda: Field(1, True)),
            (BadField, lambda: Field(1, "a", goal=1)), (BadField, lambda: Field(1, "a", goal=0)),
            (BadBoard, lambda: Board({True: Field(1)}, "a", {})), (BadBoard, lambda: Board(True, "a", {})),
            (BadBoard, lambda: Board({"a": True}, "a", {})), (BadBoard, lambda: Board(fields, True, {})),
            (BadBoard, lambda: Board(fields, "a", True)), (BadBoard, lambda: Board(fields, "a", {("a", "b"): True})),
            (BadBoard, lambda: Board(fields, "a", {("a", True): 1})), (BadBoard, lambda: Board(fields, "a", {True: 1})),
            (BadName, lambda: board[True]), (BadName, lambda: board.price(True)),
            (BadName, lambda: board.price((True, False))), (BadSet, lambda: board - True),
            (BadSet, lambda: board - (True,)), (BadSet, lambda: board(("a",), False)),
            (BadPlay, lambda: board(True)), (BadPlay, lambda: board((True,))), (BadPlay, lambda: board(("a", True))),
            (BadRanks, lambda: are_ranks(board, (), {"a": True})),
            (BadRanks, lambda: are_ranks(board, (), {"a": False})),
            (BadRanks, lambda: are_ranks(board, (), {True: 1})), (BadRanks, lambda: are_ranks(board, (), {False: 0})),
            (BadTrap, lambda: is_trap(board, {"a": False})), (BadTrap, lambda: is_trap(board, {True: None})),
            (BadTrap, lambda: holds(board, (), {"a": True})), (BadTrap, lambda: holds(board, (), {False: "a"})),
            (BadSet, lambda: distances(board, (False,))), (BadBoard, lambda: distances(True, ())),
            (BadBoard, lambda: cheapest(True)), (BadBoard, lambda: winning_sets(False)), (BadBoard, lambda: breaches(True)),
            (BadBoard, lambda: rescues(True)), (BadSet, lambda: set_cost(board, True)),
            (BadSet, lambda: set_cost(board, (False,))), (BadBoard, lambda: cheapest(board).shows(True)),
            (BadBoard, lambda: NoForbidding([]).shows(False)), (BadBoard, lambda: Game(True)),
            (BadSet, lambda: Game(board, False)), (BadName, lambda: Game(board).move(True)),
            (BadName, lambda: True in Game(board)), (BadPlay, lambda: Game.after(board, True)),
            (BadPlay, lambda: Game.after(board, ("a", True))), (BadSet, lambda: needless(board, True)),
            (BadBoard, lambda: needed(True)), (BadBoard, lambda: board_text(True)), (BadText, lambda: read_board(True)),
            (BadText, lambda: read_board(False)),
        ]
        for at, (error, call) in enumerate(calls):
            with self.subTest(at), self.assertRaises(error):
                call()

    def test_answers_are_booleans(self):
        board = made({"a": (1, "a", True)}, "a", [(("a", "a"), 1)])
        answers = [board["a"].goal, "a" in board["a"], ("a", "a") in board, is_winning(board, ()),
                   are_ranks(board, (), {"a": 0}), not is_trap(board, {"a": None}), not holds(board, (), {"a": None}),
                   board == board, board["a"] == Field(1, "a", goal=True)]
        found = cheapest(board)
        answers += [found.shows(board), "a" not in Game(board), bool(Game(board)), found == cheapest(board),
                    not NoForbidding([]).shows(board), NoForbidding([]) == NoForbidding([])]
        for answer in answers:
            self.assertIs(answer, True)


class Refused(unittest.TestCase):
    """Errors: the first documented one, of the documented classes alone, and nothing changed."""

    def test_the_first_documented_one(self):
        board = example()
        over = Game.after(board, ("a", "b", "c"))
        bad = (("a", "b"), ("b", "a"))
        calls = [
            (BadBoard, lambda: set_cost(5, 5)), (BadBoard, lambda: needless(5, 5)), (BadSet, lambda: needless(board, bad)),
            (BadBoard, lambda: Game(5, 5)), (BadSet, lambda: Game(board, bad)), (BadBoard, lambda: Game.after(5, 5, 5)),
            (BadSet, lambda: Game.after(board, 5, bad)), (BadSet, lambda: Game.after(board, ("b",), 5)),
            (BadPlay, lambda: Game.after(board, 5, ())), (BadName, lambda: over.move("z")), (BadName, lambda: over.move([])),
            (NoMove, lambda: over.move("a")), (BadName, lambda: "z" in over), (BadSet, lambda: board(5, bad)),
            (BadBoard, lambda: are_ranks(5, 5, 5)), (BadSet, lambda: are_ranks(board, 5, 5)),
            (BadBoard, lambda: holds(5, 5, 5)), (BadSet, lambda: holds(board, 5, 5)), (BadBoard, lambda: is_trap(5, 5)),
            (NotWinning, lambda: needless(board, ())), (NothingMoved, lambda: Game(board).undo()),
        ]
        for at, (error, call) in enumerate(calls):
            with self.subTest(at), self.assertRaises(MoveError) as caught:
                call()
            with self.subTest(at):
                self.assertIs(type(caught.exception), error)

    def test_boards_of_every_other_kind(self):
        calls = [winning_sets, breaches, rescues, cheapest, needed, board_text, Game, cheapest(example()).shows,
                 lambda wrong: set_cost(wrong, ()), lambda wrong: needless(wrong, ()),
                 lambda wrong: Game.after(wrong, ("a",)), lambda wrong: NoForbidding([]).shows(wrong)]
        for wrong in NOT_BOARDS:
            for call in calls:
                with self.assertRaises(BadBoard) as caught:
                    call(wrong)
                self.assertIsNone(caught.exception.part)

    def test_a_game_goes_on_after_refused_calls(self):
        game = Game.after(example(), ("a", "b", "a", "b"))
        names = game.good()
        for call in [lambda: game.move("b"), lambda: game.move("z"), lambda: game.move([]), lambda: [] in game,
                     lambda: Game.after(example(), ("a", "c"))]:
            with self.assertRaises(MoveError):
                call()
        self.assertEqual([game.path, list(names), game.undo()], [("a", "b", "a", "b"), ["a"], "b"])

    def test_arguments_of_refused_calls_are_not_modified(self):
        board = example()
        given = [["a", "b"], {"a": None}, [("a", "b")], {("b", "a"): 1}]
        before = copy.deepcopy(given)
        for wrong in given:
            for call in [lambda: Game(board, wrong), lambda: Game.after(board, wrong), lambda: Game(board).move(wrong),
                         lambda: set_cost(board, wrong), lambda: needless(board, wrong), lambda: read_board(wrong),
                         lambda: cheapest(wrong)]:
                with self.assertRaises(MoveError):
                    call()
        self.assertEqual(given, before)


class Sizes(unittest.TestCase):
    """The largest boards, and what may be larger than that."""

    def test_the_largest_boards(self):
        board = largest()
        whole = tuple(board.moves)
        self.assertEqual(distances(board, whole), {**dict.fromkeys("sabcdefg"), "s": 1, "g": 0})
        self.assertIs(is_winning(board, whole[1:]), False)
        self.assertIs(are_ranks(board, whole, {"s": 1, "g": 0}), True)
        self.assertIs(holds(board, whole[:5], {"s": "a", "a": None}), True)
        self.assertIs(holds(board, whole, {"s": "a", "a": None}), False)
        self.assertEqual(len(board - whole), 0)
        self.assertEqual(board(("s",), whole), ["g"])
        self.assertEqual(len(winning_sets(board)), 1)
        self.assertEqual(cheapest(board).forbidden, whole)
        self.assertEqual(needed(board), board.moves)

    def test_great_ranks(self):
        ranks = {"c": 10 ** 100, "b": 10 ** 100 + 1, "a": 10 ** 200}
        self.assertIs(are_ranks(example(), (("b", "a"),), ranks), True)
        traps = cheapest(example()).traps
        self.assertIs(Forbidding((("b", "a"),), ranks, traps).shows(example()), True)

    def test_many_traps(self):
        board = example()
        found = cheapest(board)
        found.traps = found.traps * 500
        self.assertIs(found.shows(board), True)
        found.traps.append({})
        self.assertIs(found.shows(board), False)

    def test_long_plays(self):
        play = ("a", "b") * 2000
        self.assertEqual(example()(play), ["a", "c"])
        self.assertEqual([len(Game.after(example(), play)), Game.after(example(), play).spot], [3999, "b"])
        with self.assertRaises(BadPlay) as caught:
            Game.after(example(), play + ("z",))
        self.assertEqual(caught.exception.index, 4000)


if __name__ == "__main__":
    unittest.main()
