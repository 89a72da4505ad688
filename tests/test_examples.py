"""The examples of the document, with the answers that it shows."""

import unittest

from forbidmoves.boards import Board, Field
from forbidmoves.winning import are_ranks, distances, holds, trap


class Examples(unittest.TestCase):
    def test_boards(self):
        fields = {'a': Field(1, 'b'), 'b': Field(2, 'a', 'c'), 'c': Field(1, goal=True)}
        board = Board(fields, 'a', {('b', 'a'): 2, ('a', 'b'): 1})
        answers = [
            board(('a',)), board(('a', 'b')), board(('a', 'b'), (('b', 'a'),)), board(('a', 'b', 'c')),
            ('b', 'c') in board, len(board), (board - (('b', 'a'),))['b'] == Field(2, 'c'),
        ]
        self.assertEqual(repr(answers), "[['b'], ['a', 'c'], ['c'], [], False, 2, True]")

    def test_winning(self):
        fields = {'a': Field(1, 'b'), 'b': Field(2, 'a', 'c'), 'c': Field(1, goal=True)}
        board = Board(fields, 'a', {('b', 'a'): 2, ('a', 'b'): 1})
        answers = [
            distances(board, ()), distances(board, (('b', 'a'),)), trap(board, ()),
            holds(board, (('a', 'b'),), {'a': None}), are_ranks(board, (('b', 'a'),), {'c': 0, 'b': 5, 'a': 7}),
        ]
        expected = [
            {'a': None, 'b': None, 'c': 0}, {'a': 2, 'b': 1, 'c': 0}, {'a': None, 'b': 'a'},
            True, True,
        ]
        self.assertEqual(answers, expected)
        self.assertEqual(repr(answers[:2]), repr(expected[:2]))


if __name__ == "__main__":
    unittest.main()
