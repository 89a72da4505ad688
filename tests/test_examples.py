"""The examples of the document, with the answers that it shows."""

import unittest

from forbidmoves.boards import Board, Field
from forbidmoves.errors import BadText
from forbidmoves.forbidding import breaches, cheapest, winning_sets
from forbidmoves.games import Game
from forbidmoves.needs import needed, needless
from forbidmoves.texts import board_text, read_board
from forbidmoves.winning import are_ranks, distances, holds, trap


class Examples(unittest.TestCase):
    def test_boards(self):
        fields = {'a': Field(1, 'b'), 'b': Field(2, 'a', 'c'), 'c': Field(1, goal=True)}
        board = Board(fields, 'a', {('b', 'a'): 2, ('a', 'b'): 1})
        answers = [
            board(('a',)), board(('a', 'b')), board(('a', 'b'), (('b', 'a'),)), board(('a', 'b', 'c')),
            ('b', 'c') in board, len(board), (board - (('b', 'a'),))['b'] == Field(2, 'c'),
        ]
        self.assertEqual(repr(answers), "[['b'], ['a', 'c'], ['c'], [], False, 2, True]")

    def test_winning(self):
        fields = {'a': Field(1, 'b'), 'b': Field(2, 'a', 'c'), 'c': Field(1, goal=True)}
        board = Board(fields, 'a', {('b', 'a'): 2, ('a', 'b'): 1})
        answers = [
            distances(board, ()), distances(board, (('b', 'a'),)), trap(board, ()),
            holds(board, (('a', 'b'),), {'a': None}), are_ranks(board, (('b', 'a'),), {'c': 0, 'b': 5, 'a': 7}),
        ]
        expected = [
            {'a': None, 'b': None, 'c': 0}, {'a': 2, 'b': 1, 'c': 0}, {'a': None, 'b': 'a'},
            True, True,
        ]
        self.assertEqual(answers, expected)
        self.assertEqual(repr(answers[:2]), repr(expected[:2]))

    def test_forbidding(self):
        fields = {'a': Field(1, 'b'), 'b': Field(2, 'a', 'c'), 'c': Field(1, goal=True)}
        board = Board(fields, 'a', {('b', 'a'): 2, ('a', 'b'): 1})
        found = cheapest(board)
        answers = [found.forbidden, found.shows(board), winning_sets(board), breaches(board)]
        self.assertEqual(repr(answers), "[(('b', 'a'),), True, [(('b', 'a'),)], "
                                        "[((('b', 'a'),), (('b', 'a'), ('a', 'b')))]]")

    def test_games(self):
        fields = {'a': Field(1, 'b'), 'b': Field(2, 'a', 'c'), 'c': Field(1, goal=True)}
        board = Board(fields, 'a', {('b', 'a'): 2, ('a', 'b'): 1})
        game = Game.after(board, ('a', 'b'))
        answers = [
            game.spot, list(game.good()), bool(game), game.move('c'), game.winner, len(game), game.undo(), 'a' in game,
            game.path,
        ]
        self.assertEqual(repr(answers), "['b', ['a'], False, 1, 1, 2, 'c', True, ('a', 'b')]")

    def test_needs(self):
        fields = {'a': Field(1, 'b'), 'b': Field(2, 'a', 'c'), 'c': Field(1, goal=True)}
        board = Board(fields, 'a', {('b', 'a'): 2, ('a', 'b'): 1})
        self.assertEqual(repr([needless(board, (('b', 'a'),)), needed(board)]), "[[], [('b', 'a')]]")

    def test_texts(self):
        text = 'field a 1 b\ngoal b 2 a\nstart a\nprice b a 3\n'
        answers = [board_text(read_board(text)) == text, read_board(text)['b'] == Field(2, 'a', goal=True)]
        self.assertEqual(repr(answers), "[True, True]")

    def test_a_text_that_is_refused(self):
        with self.assertRaises(BadText) as caught:
            read_board('field a 1 b\nfield b 3\n')
        self.assertEqual(caught.exception.row, 1)


if __name__ == "__main__":
    unittest.main()
