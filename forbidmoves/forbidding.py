"""The cheapest sets of moves to forbid, with the evidence for them, and the families of sets."""

from forbidmoves.boards import check_board, check_set
from forbidmoves.winning import are_ranks, distances, holds, is_trap, is_winning, trap


class Forbidding:
    """A winning set with the least cost, ranks for it, and traps against the sets that cost less."""

    def __init__(self, forbidden, ranks, traps):
        self.forbidden = forbidden
        self.ranks = dict(ranks)
        self.traps = [dict(caught) for caught in traps]

    def __eq__(self, other):
        return (
            isinstance(other, Forbidding)
            and self.forbidden == other.forbidden
            and self.ranks == other.ranks
            and self.traps == other.traps
        )

    def shows(self, board):
        """Tell whether the set is winning and none that costs less is, as the ranks and the traps show."""
        check_board(board)
        if not are_ranks(board, self.forbidden, self.ranks):
            return False
        cost = set_cost(board, self.forbidden)
        return are_traps_against(board, self.traps, cheaper_sets(board, cost))


class NoForbidding:
    """Traps against all sets of a board that has no winning set."""

    def __init__(self, traps):
        self.traps = [dict(caught) for caught in traps]

    def __eq__(self, other):
        return isinstance(other, NoForbidding) and self.traps == other.traps

    def shows(self, board):
        """Tell whether no set is winning, as the traps show."""
        check_board(board)
        return are_traps_against(board, self.traps, all_sets(board))


def all_sets(board):
    """List all sets of moves of a board, in their order."""
    moves = board.moves
    return [tuple([moves[at] for at in places]) for places in all_places(len(moves))]


def all_places(many):
    """List the lists of indices of that many prices, the shorter ones first."""
    rows = [[]]
    for place in range(many):
        rows = rows + [row + [place] for row in rows]
    return sorted(rows, key=lambda places: (len(places), places))


def set_cost(board, forbidden):
    """Return the cost of a set."""
    check_board(board)
    check_set(board, forbidden)
    return sum([board.price(move) for move in forbidden])


def cheaper_sets(board, cost):
    """List the sets that cost less, in their order."""
    return [chosen for chosen in all_sets(board) if set_cost(board, chosen) < cost]


def winning_sets(board):
    """List the winning sets, in their order."""
    check_board(board)
    return [chosen for chosen in all_sets(board) if is_winning(board, chosen)]


def breaches(board):
    """List the pairs of a winning set and one that is not winning with one move more."""
    check_board(board)
    return turning_pairs(board, True)


def rescues(board):
    """List the pairs of a set that is not winning and a winning one with one move more."""
    check_board(board)
    return turning_pairs(board, False)


def turning_pairs(board, before):
    """List the pairs of a set that is winning or not, as `before` says, and one with one move more that is not so."""
    sets = all_sets(board)
    won = {chosen: is_winning(board, chosen) for chosen in sets}
    starts = [chosen for chosen in sets if won[chosen] == before]
    ends = [chosen for chosen in sets if won[chosen] != before]
    return [(first, second) for first in starts for second in ends if has_one_more(first, second)]


def has_one_more(first, second):
    """Tell whether the second set has the moves of the first one and exactly one more."""
    return len(second) == len(first) + 1 and all([move in second for move in first])


def cheapest(board):
    """Return the first winning set of the least cost with its evidence, or the evidence that there is none."""
    winning = winning_sets(board)
    if len(winning) == 0:
        return NoForbidding(traps_against(board, all_sets(board)))
    cost = min([set_cost(board, chosen) for chosen in winning])
    forbidden = [chosen for chosen in winning if set_cost(board, chosen) == cost][0]
    found = distances(board, forbidden)
    ranks = {name: found[name] for name in found if found[name] is not None}
    return Forbidding(forbidden, ranks, traps_against(board, cheaper_sets(board, cost)))


def traps_against(board, sets):
    """List traps such that against each of the sets, none of which is winning, one of them holds."""
    traps = []
    for forbidden in sets:
        if not is_caught(board, forbidden, traps):
            traps.append(trap(board, forbidden))
    return traps


def is_caught(board, forbidden, traps):
    """Tell whether one of the traps holds against a set."""
    for caught in traps:
        if holds(board, forbidden, caught):
            return True
    return False


def are_traps_against(board, traps, sets):
    """Tell whether all items are traps, and against each of the sets one of them holds."""
    if not all([is_trap(board, caught) for caught in traps]):
        return False
    return all([is_caught(board, forbidden, traps) for forbidden in sets])
