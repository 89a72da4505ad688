"""Which moves of a winning set can be left out, and which moves are in every winning set."""

from forbidmoves.errors import NotWinning
from forbidmoves.forbidding import winning_sets
from forbidmoves.winning import is_winning


def needless(board, forbidden):
    """List the moves of a winning set without which it is winning, too, in order."""
    if not is_winning(board, forbidden):
        raise NotWinning("the set is not winning")
    return [move for move in forbidden if is_winning(board, set_without(forbidden, move))]


def set_without(forbidden, move):
    """Return a set without one of its moves."""
    return tuple([kept for kept in forbidden if kept != move])


def needed(board):
    """List the moves that are in every winning set, in the order of the prices."""
    winning = winning_sets(board)
    return [move for move in board.moves if all([move in chosen for chosen in winning])]
