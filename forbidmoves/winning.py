"""Who can force a win, and the evidence for it: distances, ranks and traps."""

from forbidmoves.boards import check_board, check_set, has_field, is_number, steps_from
from forbidmoves.errors import BadRanks, BadTrap


def distances(board, forbidden):
    """Return a dict from all fields, in order, to their distances for a set."""
    check_board(board)
    check_set(board, forbidden)
    steps = {name: steps_from(board, name, forbidden) for name in board.names}
    found = {}
    # Each distance up to the greatest is that of some field, so there are no more of them than fields.
    for distance in range(len(steps)):
        won = [name for name in steps if name not in found and is_won_by(board[name], steps[name], found)]
        for name in won:
            found[name] = distance
    return {name: found.get(name) for name in steps}


def is_won_by(field, steps, found):
    """Tell whether the first player wins from a field whose steps win if they lead to a field that was found."""
    return is_forced(field, [target in found for target in steps])


def is_forced(field, leads_on):
    """Tell whether a field is a goal or its owner cannot keep the token from a step that leads on."""
    if field.goal:
        return True
    if field.owner == 1:
        return any(leads_on)
    return all(leads_on)


def is_winning(board, forbidden):
    """Tell whether a set is winning."""
    found = distances(board, forbidden)
    return found[board.start] is not None


def check_ranks(board, value):
    """Raise BadRanks if a value is not a dict from fields of the board to integers of at least 0."""
    if not isinstance(value, dict):
        raise BadRanks("not a dict")
    for name in value:
        if not has_field(board, name):
            raise BadRanks("a key that is not a field")
        if not is_number(value[name]) or value[name] < 0:
            raise BadRanks("a rank that is not an integer of at least 0")


def are_ranks(board, forbidden, ranks):
    """Tell whether a dict is ranks for a set."""
    check_board(board)
    check_set(board, forbidden)
    check_ranks(board, ranks)
    if board.start not in ranks:
        return False
    return all([is_ranked(board, forbidden, ranks, name) for name in ranks])


def is_ranked(board, forbidden, ranks, name):
    """Tell whether the rank of a field falls as it has to."""
    rank = ranks[name]
    steps = steps_from(board, name, forbidden)
    return is_forced(board[name], [target in ranks and ranks[target] < rank for target in steps])


def check_trap(board, value):
    """Raise BadTrap if a value is not a dict from fields of the board to fields of the board or None."""
    if not isinstance(value, dict):
        raise BadTrap("not a dict")
    for name in value:
        if not has_field(board, name):
            raise BadTrap("a key that is not a field")
        if value[name] is not None and not has_field(board, value[name]):
            raise BadTrap("a target that is neither a field nor None")


def is_trap(board, trap):
    """Tell whether a dict is a trap."""
    check_board(board)
    check_trap(board, trap)
    return is_sound(board, trap)


def is_sound(board, trap):
    """Tell whether a dict from fields to fields or None is a trap."""
    if board.start not in trap:
        return False
    return all([is_answered(board[name], trap[name], trap) for name in trap])


def is_answered(field, target, trap):
    """Tell whether a field may be in a trap with that target."""
    if field.goal:
        return False
    if field.owner == 1:
        return target is None
    return target in field and target in trap


def holds(board, forbidden, trap):
    """Tell whether a dict is a trap and holds against a set."""
    check_board(board)
    check_set(board, forbidden)
    check_trap(board, trap)
    if not is_sound(board, trap):
        return False
    return all([is_held(board, forbidden, trap, name) for name in trap])


def is_held(board, forbidden, trap, name):
    """Tell whether the token does not leave a trap from a field in it."""
    if board[name].owner == 2:
        return (name, trap[name]) not in forbidden
    return all([target in trap for target in steps_from(board, name, forbidden)])


def trap(board, forbidden):
    """Return a trap that holds against a set, or None if the set is winning."""
    found = distances(board, forbidden)
    if found[board.start] is not None:
        return None
    # From a field without a distance the second player can always stay among such fields.
    safe = [name for name in found if found[name] is None]
    return {name: answer(board, forbidden, name, safe) for name in safe}


def answer(board, forbidden, name, safe):
    """Return a safe field to which the second player can move from a field, or None at one of the first player."""
    if board[name].owner == 1:
        return None
    return [target for target in steps_from(board, name, forbidden) if target in safe][0]
