"""Point 10: games."""

import types
import unittest

from forbidmoves.boards import Board, Field
from forbidmoves.errors import BadBoard, BadName, BadPlay, BadSet, NoMove, NothingMoved
from forbidmoves.games import Game
from tests.helper import (NOT_BOARDS, NOT_NAMES, NOT_STRINGS, distance_of, example, made, mixed_boards, not_sets, sets_of,
                          some_boards, steps_of)

HELPED, SPOILED = ("b", "a"), ("a", "b")


def state(game):
    return [game.path, game.spot, game.winner, len(game), bool(game), list(game.good())]


def fork():
    """Return a board from whose fields all kinds of good moves lead on."""
    raw = {"p": (2, "xge", False), "e": (2, "f", False), "a": (1, "pzfed", False), "f": (2, "dg", False),
           "d": (1, "g", False), "x": (1, "xza", False), "z": (2, "zxg", False), "g": (2, "a", True)}
    return made(raw, "a", [(("p", "x"), 1), (("z", "x"), 2), (("z", "z"), 3), (("a", "d"), 4), (("a", "f"), 5),
                           (("x", "a"), 6)])


class Making(unittest.TestCase):
    def test_a_new_game(self):
        game = Game(example())
        self.assertEqual(state(game), [("a",), "a", None, 0, False, ["b"]])

    def test_with_a_set(self):
        self.assertEqual(state(Game(example(), (HELPED,))), [("a",), "a", None, 0, True, ["b"]])
        self.assertEqual(state(Game(example(), (SPOILED,))), [("a",), "a", 2, 0, False, []])
        self.assertEqual(state(Game(example(), (HELPED, SPOILED))), [("a",), "a", 2, 0, False, []])

    def test_arguments_by_name(self):
        self.assertEqual(state(Game(forbidden=(HELPED,), board=example())), state(Game(example(), (HELPED,))))
        self.assertEqual(state(Game.after(forbidden=(HELPED,), play=("a", "b"), board=example())),
                         state(Game.after(example(), ("a", "b"), (HELPED,))))
        game = Game(example())
        self.assertIsNone(game.move(name="b"))

    def test_what_is_not_a_board(self):
        for wrong in NOT_BOARDS:
            for call in [lambda: Game(wrong), lambda: Game(wrong, ()), lambda: Game(wrong, 5),
                         lambda: Game.after(wrong, ("a",)), lambda: Game.after(wrong, 5, ()),
                         lambda: Game.after(wrong, 5, 5)]:
                with self.assertRaises(BadBoard) as caught:
                    call()
                self.assertIsNone(caught.exception.part)

    def test_what_is_not_a_set(self):
        for wrong in not_sets(example()):
            for call in [lambda: Game(example(), wrong), lambda: Game.after(example(), ("a",), wrong),
                         lambda: Game.after(example(), 5, wrong), lambda: Game.after(example(), (), wrong),
                         lambda: Game.after(example(), ("a", "c"), wrong)]:
                with self.assertRaises(BadSet):
                    call()

    def test_the_board_is_not_changed(self):
        board = example()
        game = Game(board, (HELPED,))
        game.move("b")
        game.move("c")
        game.undo()
        self.assertTrue(board == example())

    def test_games_on_one_board_do_not_share(self):
        board = example()
        first, second = Game(board), Game(board)
        first.move("b")
        self.assertEqual([first.spot, second.spot, len(second)], ["b", "a", 0])


class After(unittest.TestCase):
    def index(self, board, play, forbidden=()):
        with self.assertRaises(BadPlay) as caught:
            Game.after(board, play, forbidden)
        return caught.exception.index

    def test_after_a_play(self):
        self.assertEqual(state(Game.after(example(), ("a",))), state(Game(example())))
        self.assertEqual(state(Game.after(example(), ("a", "b"))), [("a", "b"), "b", None, 1, False, ["a"]])
        self.assertEqual(state(Game.after(example(), ("a", "b"), (HELPED,))), [("a", "b"), "b", None, 1, True, ["c"]])
        self.assertEqual(state(Game.after(example(), ("a", "b", "c"))), [("a", "b", "c"), "c", 1, 2, True, []])
        self.assertEqual(state(Game.after(example(), ("a",), (SPOILED,))), [("a",), "a", 2, 0, False, []])

    def test_it_is_a_game(self):
        game = Game.after(example(), ("a", "b", "a"))
        self.assertIsInstance(game, Game)
        game.move("b")
        self.assertEqual([game.undo(), game.undo(), game.undo()], ["b", "a", "b"])
        self.assertEqual(state(game), state(Game(example())))

    def test_it_is_called_off_a_game_too(self):
        game = Game(example(), (HELPED,))
        self.assertEqual(state(game.after(example(), ("a", "b"))), state(Game.after(example(), ("a", "b"))))
        self.assertEqual(game.path, ("a",))

    def test_what_is_not_a_play(self):
        board = example()
        for wrong in [None, True, 0, "a", ["a"], ["a", "b"], {"a": 1}, {"a"}, object()]:
            self.assertIsNone(self.index(board, wrong))
        self.assertEqual(self.index(board, ()), 0)
        for wrong in [*NOT_STRINGS, *NOT_NAMES, "b", "c", "z"]:
            self.assertEqual(self.index(board, (wrong,)), 0)
            self.assertEqual(self.index(board, (wrong, "b")), 0)
        for wrong in [*NOT_STRINGS, *NOT_NAMES, "a", "c", "z"]:
            self.assertEqual(self.index(board, ("a", wrong)), 1)
            self.assertEqual(self.index(board, ("a", "b", "a", wrong)), 3)
        self.assertEqual(self.index(board, ("a", "b", "b")), 2)
        self.assertEqual(self.index(board, ("a", "b", "c", "c")), 3)

    def test_forbidden_moves_are_not_played(self):
        self.assertEqual(self.index(example(), ("a", "b", "a"), (HELPED,)), 2)
        self.assertEqual(self.index(example(), ("a", "b"), (SPOILED,)), 1)
        self.assertEqual(self.index(example(), ("a", "b", "a", "b"), (SPOILED,)), 1)

    def test_as_for_a_board_that_is_called(self):
        for _, board in some_boards(25, most_fields=4, seed=51):
            for forbidden in sets_of(board)[:8]:
                for first in board.names:
                    for second in board.names:
                        for third in board.names:
                            play = (first, second, third)
                            try:
                                expected = board(play, forbidden)
                            except BadPlay as wrong:
                                self.assertEqual(self.index(board, play, forbidden), wrong.index)
                            else:
                                game = Game.after(board, play, forbidden)
                                self.assertEqual([name for name in board.names if name in game], expected)


class Moving(unittest.TestCase):
    def test_step_by_step(self):
        game = Game(example())
        self.assertIsNone(game.move("b"))
        self.assertEqual([game.path, game.spot, len(game), game.winner], [("a", "b"), "b", 1, None])
        self.assertIsNone(game.move("a"))
        self.assertIsNone(game.move("b"))
        self.assertEqual(game.move("c"), 1)
        self.assertEqual([game.path, game.spot, len(game), game.winner], [("a", "b", "a", "b", "c"), "c", 4, 1])

    def test_to_the_same_field(self):
        game = Game(made({"a": (1, "ab", False), "b": (1, "", True)}, "a"))
        self.assertEqual([game.move("a"), game.move("a"), game.move("b")], [None, None, 1])
        self.assertEqual(game.path, ("a", "a", "a", "b"))

    def test_who_cannot_move_has_lost(self):
        raw = {"a": (1, "bc", False), "b": (2, "", False), "c": (1, "", False)}
        self.assertEqual(Game(made(raw, "a")).move("b"), 1)
        self.assertEqual(Game(made(raw, "a")).move("c"), 2)
        self.assertEqual([Game(made(raw, name)).winner for name in "abc"], [None, 1, 2])

    def test_forbidden_moves_do_not_count(self):
        raw = {"a": (1, "b", False), "b": (2, "a", False)}
        board = made(raw, "a", [(("b", "a"), 1), (("a", "b"), 1)])
        self.assertEqual(Game(board, (("b", "a"),)).move("b"), 1)
        self.assertIsNone(Game(board).move("b"))
        self.assertEqual(Game(board, (("a", "b"),)).winner, 2)

    def test_the_first_player_wins_at_goals_of_both_players(self):
        for owner in [1, 2]:
            for targets in ["", "a", "ab"]:
                board = made({"a": (1, "b", False), "b": (owner, targets, True)}, "a")
                self.assertEqual(Game(board).move("b"), 1)
                self.assertEqual(Game(made({"a": (1, "", False), "b": (owner, targets, True)}, "b")).winner, 1)

    def test_a_field_to_which_it_cannot_be_moved(self):
        game = Game(example())
        for name in ["a", "c"]:
            with self.assertRaises(NoMove):
                game.move(name)
        game.move("b")
        with self.assertRaises(NoMove):
            game.move("b")
        self.assertEqual(state(game), [("a", "b"), "b", None, 1, False, ["a"]])

    def test_a_forbidden_move(self):
        game = Game(example(), (HELPED,))
        game.move("b")
        with self.assertRaises(NoMove):
            game.move("a")
        self.assertEqual([game.path, game.move("c")], [("a", "b"), 1])

    def test_after_the_end(self):
        board = made({"a": (1, "b", False), "b": (2, "ab", True)}, "a")
        game = Game(board)
        game.move("b")
        for name in ["a", "b"]:
            with self.assertRaises(NoMove):
                game.move(name)
            self.assertIs(name in game, False)
        self.assertEqual(state(game), [("a", "b"), "b", 1, 1, True, []])
        lost = Game(example(), (SPOILED,))
        for name in ["a", "b", "c"]:
            with self.assertRaises(NoMove):
                lost.move(name)
        self.assertEqual(state(lost), [("a",), "a", 2, 0, False, []])

    def test_what_is_not_the_name_of_a_field(self):
        for game in [Game(example()), Game(example(), (SPOILED,)), Game.after(example(), ("a", "b", "c"))]:
            before = state(game)
            for wrong in [*NOT_STRINGS, *NOT_NAMES, "d", "ab", "start", ("a", "b"), ("b",), ["b"]]:
                with self.assertRaises(BadName):
                    game.move(wrong)
                with self.assertRaises(BadName):
                    wrong in game
            self.assertEqual(state(game), before)

    def test_membership(self):
        game = Game(example())
        self.assertEqual([name in game for name in "abc"], [False, True, False])
        game.move("b")
        self.assertEqual([name in game for name in "abc"], [True, False, True])
        self.assertIs("a" in game, True)
        self.assertIs("b" in game, False)
        self.assertEqual([name in Game.after(example(), ("a", "b"), (HELPED,)) for name in "abc"], [False, False, True])

    def test_membership_against_the_words(self):
        for raw, board in some_boards(60, seed=52):
            for forbidden in sets_of(board)[:10]:
                game = Game(board, forbidden)
                steps = [] if raw[board.start][2] else steps_of(raw, forbidden, board.start)
                self.assertEqual([name in game for name in raw], [name in steps for name in raw])


class Undoing(unittest.TestCase):
    def test_the_last_step_first(self):
        game = Game.after(example(), ("a", "b", "a", "b", "c"))
        self.assertEqual([game.undo(), game.spot, game.winner, len(game)], ["c", "b", None, 3])
        self.assertEqual([game.undo(), game.path], ["b", ("a", "b", "a")])
        self.assertEqual([game.undo(), game.undo(), game.path], ["a", "b", ("a",)])

    def test_nothing_was_moved(self):
        game = Game(example())
        with self.assertRaises(NothingMoved):
            game.undo()
        game.move("b")
        game.undo()
        for _ in range(2):
            with self.assertRaises(NothingMoved):
                game.undo()
        self.assertEqual(state(game), state(Game(example())))
        self.assertIsNone(game.move("b"))

    def test_nothing_was_moved_in_a_game_that_is_over(self):
        for game in [Game(example(), (SPOILED,)), Game(made({"a": (1, "a", True)}, "a")),
                     Game.after(example(), ("a",), (SPOILED,))]:
            before = state(game)
            with self.assertRaises(NothingMoved):
                game.undo()
            self.assertEqual(state(game), before)

    def test_other_steps_after_it(self):
        game = Game(made({"a": (1, "bc", False), "b": (1, "", False), "c": (1, "", True)}, "a"))
        self.assertEqual([game.move("b"), game.undo(), game.move("c"), game.path], [2, "b", 1, ("a", "c")])

    def test_a_step_to_the_same_field(self):
        game = Game(made({"a": (1, "a", False)}, "a"))
        game.move("a")
        self.assertEqual([game.undo(), game.path], ["a", ("a",)])

    def test_refused_steps_are_not_taken_back(self):
        game = Game.after(example(), ("a", "b"))
        for wrong in ["b", "z", 1]:
            with self.assertRaises((NoMove, BadName)):
                game.move(wrong)
        self.assertEqual([game.undo(), len(game)], ["b", 0])

    def test_long_games(self):
        game = Game(example())
        for _ in range(3000):
            game.move("b")
            game.move("a")
        self.assertEqual([len(game), len(game.path), game.spot], [6000, 6001, "a"])
        again = Game.after(example(), game.path)
        self.assertEqual(state(again), state(game))
        for _ in range(3000):
            self.assertEqual([game.undo(), game.undo()], ["a", "b"])
        self.assertEqual(state(game), state(Game(example())))


class Good(unittest.TestCase):
    def good(self, start, forbidden=()):
        board = fork()
        fields = {name: board[name] for name in board.names}
        prices = {move: board.price(move) for move in board.moves}
        return list(Game(Board(fields, start, prices), forbidden).good())

    def test_the_first_player_with_a_distance(self):
        # The distances of d, f, e and p are 1 to 4; z has none.
        self.assertEqual(self.good("a"), ["d"])
        self.assertEqual(self.good("a", (("a", "d"),)), ["f"])
        self.assertEqual(self.good("a", (("a", "d"), ("a", "f"))), ["e"])
        self.assertEqual(self.good("d"), ["g"])
        self.assertEqual(self.good("x"), ["a"])

    def test_several_of_the_least_distance(self):
        raw = {"c": (1, "g", False), "a": (1, "dbgec", False), "d": (1, "a", False), "b": (1, "g", False),
               "g": (1, "", True), "e": (2, "", False)}
        self.assertEqual(list(Game(made(raw, "a")).good()), ["g", "e"])
        raw["a"] = (1, "dbc", False)
        self.assertEqual(list(Game(made(raw, "a")).good()), ["c", "b"])

    def test_the_second_player_with_a_distance(self):
        # x and e are three moves from the goal.
        self.assertEqual(self.good("p"), ["e", "x"])
        self.assertEqual(self.good("f"), ["d"])
        self.assertEqual(self.good("e"), ["f"])
        self.assertEqual(self.good("p", (("p", "x"),)), ["e"])

    def test_several_of_the_greatest_distance(self):
        raw = {"c": (1, "g", False), "a": (2, "gbhc", False), "b": (2, "gh", False), "h": (2, "", True),
               "g": (1, "", True)}
        self.assertEqual(list(Game(made(raw, "a")).good()), ["c", "b"])

    def test_the_second_player_without_a_distance(self):
        self.assertEqual(self.good("z"), ["z"])
        self.assertEqual(self.good("z", (("x", "a"),)), ["x", "z"])
        self.assertEqual(self.good("z", (("z", "z"), ("x", "a"))), ["x"])
        self.assertEqual(self.good("p", (("x", "a"),)), ["x"])

    def test_the_first_player_without_a_distance(self):
        self.assertEqual(self.good("x", (("x", "a"),)), ["x", "z"])
        raw = {"c": (1, "", False), "a": (1, "bac", False), "b": (2, "a", False)}
        self.assertEqual(list(Game(made(raw, "a")).good()), ["c", "a", "b"])
        board = made(raw, "a", [(("a", "c"), 1)])
        self.assertEqual(list(Game(board, (("a", "c"),)).good()), ["a", "b"])

    def test_forbidden_moves_are_not_good(self):
        self.assertEqual(list(Game.after(example(), ("a", "b"), (HELPED,)).good()), ["c"])
        self.assertEqual(list(Game.after(example(), ("a", "b")).good()), ["a"])

    def test_none_if_the_game_is_over(self):
        self.assertEqual(self.good("g"), [])
        self.assertEqual(list(Game(made({"a": (1, "ab", True), "b": (1, "", False)}, "a")).good()), [])
        self.assertEqual(list(Game(made({"a": (2, "", False)}, "a")).good()), [])
        self.assertEqual(list(Game(made({"a": (1, "", False)}, "a")).good()), [])
        self.assertEqual(list(Game(example(), (SPOILED,)).good()), [])

    def test_against_the_words(self):
        for raw, board in [*some_boards(120, seed=53), *mixed_boards(60, seed=54)]:
            for forbidden in sets_of(board)[:12]:
                self.assertEqual(list(Game(board, forbidden).good()), self.good_by_the_words(raw, board, forbidden))

    def good_by_the_words(self, raw, board, forbidden):
        owner, _, goal = raw[board.start]
        steps = [name for name in raw if name in steps_of(raw, forbidden, board.start)]
        if goal or not steps:
            return []
        found = {name: distance_of(raw, forbidden, name) for name in raw}
        known = [found[name] for name in steps if found[name] is not None]
        if found[board.start] is not None:
            return [name for name in steps if found[name] == (min(known) if owner == 1 else max(known))]
        return steps if owner == 1 else [name for name in steps if found[name] is None]

    def test_good_moves_of_the_first_player_win(self):
        for _, board in mixed_boards(40, seed=55):
            for forbidden in sets_of(board):
                game = Game(board, forbidden)
                if game:
                    for _ in range(len(board.names)):
                        if game.winner is None:
                            game.move(list(game.good())[-1])
                            self.assertIs(bool(game), True)
                    self.assertEqual(game.winner, 1)

    def test_it_is_a_generator(self):
        self.assertIsInstance(Game(example()).good(), types.GeneratorType)

    def test_the_play_when_the_first_one_is_requested(self):
        game = Game(fork())
        names = game.good()
        game.move("p")
        game.move("x")
        self.assertEqual(list(names), ["a"])
        names = game.good()
        game.undo()
        game.undo()
        self.assertEqual(list(names), ["d"])

    def test_steps_after_the_first_one_was_requested(self):
        game = Game(made({"c": (1, "", False), "a": (1, "bac", False), "b": (2, "a", False)}, "a"))
        names = game.good()
        self.assertEqual(next(names), "c")
        game.move("b")
        self.assertEqual(next(names), "a")
        game.undo()
        game.move("c")
        self.assertEqual(list(names), ["b"])
        self.assertEqual(list(game.good()), [])

    def test_over_when_the_first_one_is_requested(self):
        game = Game.after(example(), ("a", "b"))
        names = game.good()
        game.move("c")
        self.assertEqual(list(names), [])
        names = game.good()
        game.undo()
        self.assertEqual(list(names), ["a"])

    def test_two_generators_at_once(self):
        game = Game(made({"c": (1, "", False), "a": (1, "ac", False)}, "a"))
        first, second = game.good(), game.good()
        self.assertEqual([next(first), next(second), next(first), next(second)], ["c", "c", "a", "a"])
        self.assertEqual([list(first), list(second)], [[], []])

    def test_steps_in_a_loop_over_it(self):
        game = Game(made({"c": (1, "", False), "a": (1, "ac", False)}, "a"))
        seen = []
        for name in game.good():
            game.move(name)
            seen.append(game.undo())
        self.assertEqual(seen, ["c", "a"])


class Truth(unittest.TestCase):
    def test_the_example(self):
        self.assertIs(bool(Game(example())), False)
        self.assertIs(bool(Game(example(), (HELPED,))), True)
        self.assertIs(bool(Game(example(), (HELPED, SPOILED))), False)

    def test_from_the_field_of_the_token(self):
        game = Game(example())
        truths = []
        for name in ["b", "a", "b", "c"]:
            game.move(name)
            truths.append(bool(game))
        self.assertEqual(truths, [False, False, False, True])
        game.undo()
        self.assertIs(bool(game), False)

    def test_games_that_are_over(self):
        self.assertIs(bool(Game(made({"a": (2, "", False)}, "a"))), True)
        self.assertIs(bool(Game(made({"a": (1, "", False)}, "a"))), False)
        self.assertIs(bool(Game(made({"a": (1, "", True)}, "a"))), True)

    def test_not_the_number_of_steps(self):
        game = Game(example(), (HELPED,))
        self.assertEqual([len(game), bool(game)], [0, True])
        game = Game.after(example(), ("a", "b", "a"))
        self.assertEqual([len(game), bool(game)], [2, False])

    def test_against_the_words(self):
        for raw, board in some_boards(60, seed=56):
            for forbidden in sets_of(board)[:8]:
                game = Game(board, forbidden)
                for _ in range(4):
                    self.assertIs(bool(game), distance_of(raw, forbidden, game.spot) is not None)
                    if game.winner is None:
                        game.move([name for name in raw if name in game][-1])


class Kinds(unittest.TestCase):
    def test_kinds(self):
        game = Game.after(example(), ("a", "b", "c"))
        self.assertEqual([type(value) for value in (game.path, game.spot, game.winner, len(game))],
                         [tuple, str, int, int])

    def test_properties_are_not_assigned(self):
        game = Game(example())
        for name in ["path", "spot", "winner"]:
            with self.assertRaises(AttributeError):
                setattr(game, name, None)

    def test_games_follow_the_words(self):
        for raw, board in some_boards(80, seed=57):
            for forbidden in sets_of(board)[:6]:
                game, path = Game(board, forbidden), [board.start]
                for turn in range(8):
                    owner, _, goal = raw[path[-1]]
                    steps = steps_of(raw, forbidden, path[-1])
                    winner = None
                    if goal or not steps:
                        winner = 1 if goal or owner == 2 else 2
                    self.assertEqual([game.path, game.spot, game.winner, len(game)],
                                     [tuple(path), path[-1], winner, len(path) - 1])
                    if winner is None and turn % 4 != 3:
                        path.append(steps[turn % len(steps)])
                        self.assertEqual(game.move(path[-1]), Game.after(board, tuple(path), forbidden).winner)
                    elif len(path) > 1:
                        self.assertEqual(game.undo(), path.pop())


class Fields(unittest.TestCase):
    def test_names_that_are_long(self):
        fields = {"abcdefgh": Field(1, "abcdefgh", "z"), "z": Field(1, goal=True)}
        game = Game(Board(fields, "abcdefgh", {}))
        self.assertEqual([game.move("abcdefgh"), game.move("z"), game.path], [None, 1, ("abcdefgh", "abcdefgh", "z")])


if __name__ == "__main__":
    unittest.main()
