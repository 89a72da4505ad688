"""Boards for the tests, and the definitions of the document written out a second time, as slow as they may be."""

import itertools
import random

from forbidmoves.boards import Board, Field


NOT_STRINGS = [None, True, False, 0, 1, b"a", ["a"], ("a",), {"a": 1}, {"a"}, object(), str]
NOT_NAMES = ["", "A", "aB", "abcdefghi", "a b", " a", "a ", "a\n", "\n", "a1", "1", "a_", "_", "-", "\u00e9",
             "\u00df", "\u0430", "\uff41", "`", "{", "a`", "{a", "\0"]
NOT_BOARDS = [None, True, 0, "a", [], (), {}, {"a": Field(1)}, Field(1), Board, object()]


def made(raw, start, prices=()):
    """Return the board of a dict from names to (owner, targets, goal), and of pairs of a move and its cost."""
    fields = {name: Field(owner, *targets, goal=goal) for name, (owner, targets, goal) in raw.items()}
    return Board(fields, start, dict(prices))


def example():
    """Return the board of the document's examples."""
    fields = {"a": Field(1, "b"), "b": Field(2, "a", "c"), "c": Field(1, goal=True)}
    return Board(fields, "a", {("b", "a"): 2, ("a", "b"): 1})


def some_boards(many, most_fields=8, seed=1):
    """Yield pairs (raw, board), the same ones each time."""
    draw = random.Random(seed)
    for _ in range(many):
        names = draw.sample(["a", "b", "c", "d", "e", "f", "g", "abcdefgh"], draw.randint(1, most_fields))
        raw = {}
        for name in names:
            targets = tuple(draw.sample(names, draw.randint(0, min(3, len(names)))))
            raw[name] = (draw.randint(1, 2), targets, draw.random() < 0.2)
        moves = [(name, target) for name in names for target in raw[name][1]]
        priced = draw.sample(moves, draw.randint(0, min(6, len(moves))))
        prices = {move: draw.randint(1, 9) for move in priced}
        yield raw, made(raw, draw.choice(names), prices)


def mixed_boards(many, seed=1):
    """Yield pairs (raw, board) in which some sets are winning and some are not, the same ones each time."""
    for raw, board in some_boards(many * 40, seed=seed):
        won = [wins(raw, board.start, chosen) for chosen in sets_of(board)]
        if any(won) and not won[0]:
            yield raw, board
            many -= 1
        if many == 0:
            return


def sets_of(board):
    """List all sets of moves of a board."""
    moves = board.moves
    return [chosen for many in range(len(moves) + 1) for chosen in itertools.combinations(moves, many)]


def steps_of(raw, forbidden, name):
    """List the targets to which the moves of a field that are not forbidden lead."""
    return [target for target in raw[name][1] if (name, target) not in forbidden]


def wins_within(raw, forbidden, name, moves):
    """Tell whether the first player can force a win within a number of moves: point 5, word by word."""
    owner, _, goal = raw[name]
    steps = steps_of(raw, forbidden, name)
    if goal or (owner == 2 and not steps):
        return True
    if moves == 0:
        return False
    if owner == 1:
        return any(wins_within(raw, forbidden, target, moves - 1) for target in steps)
    return all(wins_within(raw, forbidden, target, moves - 1) for target in steps)


def distance_of(raw, forbidden, name):
    """Return the least number of moves within which the first player can force a win, or None."""
    for moves in range(len(raw) + 1):
        if wins_within(raw, forbidden, name, moves):
            return moves
    return None


def ranks_by_the_words(raw, start, forbidden, ranks):
    """Tell whether a dict is ranks for a set: point 6, word by word."""
    for name in ranks:
        owner, _, goal = raw[name]
        steps = steps_of(raw, forbidden, name)
        smaller = [target for target in steps if target in ranks and ranks[target] < ranks[name]]
        fits = goal or (owner == 2 and len(smaller) == len(steps)) or (owner == 1 and len(smaller) > 0)
        if not fits:
            return False
    return start in ranks


def trap_by_the_words(raw, start, trap):
    """Tell whether a dict is a trap: the first half of point 7, word by word."""
    for name, target in trap.items():
        owner, targets, goal = raw[name]
        if goal:
            return False
        if owner == 1 and target is not None:
            return False
        if owner == 2 and (target not in targets or target not in trap):
            return False
    return start in trap


def holds_by_the_words(raw, start, forbidden, trap):
    """Tell whether a dict is a trap that holds against a set: point 7, word by word."""
    if not trap_by_the_words(raw, start, trap):
        return False
    for name, target in trap.items():
        if raw[name][0] == 2 and (name, target) in forbidden:
            return False
        if raw[name][0] == 1 and any(step not in trap for step in steps_of(raw, forbidden, name)):
            return False
    return True


def wins(raw, start, forbidden):
    """Tell whether a set is winning: the last words of point 5."""
    return wins_within(raw, forbidden, start, len(raw))


def cost_by_the_words(board, forbidden):
    """Return the sum of the costs of the moves of a set."""
    total = 0
    for move in forbidden:
        total += board.price(move)
    return total


def caught_by_the_words(raw, start, traps, sets):
    """Tell whether all items are traps, and against each set one of them holds: what point 8 says of traps."""
    for item in traps:
        if not trap_by_the_words(raw, start, item):
            return False
    for forbidden in sets:
        if not any(holds_by_the_words(raw, start, forbidden, item) for item in traps):
            return False
    return True


def largest():
    """Return a board of 8 fields and 6 prices, all of whose moves with a price have to be forbidden."""
    raw = {"s": (2, "abcdefg", False), **{name: (1, "", False) for name in "abcdef"}, "g": (1, "", True)}
    return made(raw, "s", [(("s", name), cost) for name, cost in zip("fbdcea", [9, 8, 7, 3, 2, 1])])


def two_ways(*costs):
    """Return a board that is won by forbidding the third move, or the first two."""
    raw = {"a": (1, "bc", False), "b": (2, "gd", False), "c": (2, "dge", False), "d": (1, "d", False),
           "e": (1, "d", False), "g": (2, "a", True)}
    return made(raw, "a", zip([("c", "d"), ("c", "e"), ("b", "d")], costs))


def spoiled():
    """Return a board that is won with its third move, or with its second one without the first."""
    raw = {"a": (1, "bc", False), "b": (2, "gd", False), "c": (2, "gd", False), "d": (1, "", False),
           "g": (1, "", True)}
    return made(raw, "a", [(("a", "b"), 1), (("b", "d"), 4), (("c", "d"), 5)])


def lost():
    """Return a board with two prices on which no set is winning."""
    raw = {"a": (1, "ab", False), "b": (2, "ab", False)}
    return made(raw, "a", [(("b", "b"), 1), (("a", "b"), 2)])


def at_goal():
    """Return a board that starts at a goal, with two prices."""
    return made({"a": (2, "ab", True), "b": (1, "", False)}, "a", [(("a", "b"), 1), (("a", "a"), 2)])


def dicts_over(names, values):
    """Yield all dicts from some of the names to some of the values."""
    absent = object()
    for chosen in itertools.product([absent, *values], repeat=len(names)):
        yield {name: value for name, value in zip(names, chosen) if value is not absent}


def not_sets(board):
    """List values that are not sets of a board that has at least two prices."""
    first, second = board.moves[0], board.moves[1]
    free = [(name, target) for name in board.names for target in board.names if (name, target) not in board.moves]
    return [
        None, True, False, 0, 1, "", "ab", b"", [], [first], {}, {first: 1}, set(), {first}, frozenset(), first,
        object(),
        (second, first), (first, first), (first, second, first), (first, second, second), (second, second),
        (list(first),), (first, list(second)), (first[0],), (first[:1],), (first + ("a",),), ((),),
        (None,), (True,), (0,), (1,), (first, 1), ({},), ({"a": 1},),
        (([first[0]], first[1]),), ((first[0], [first[1]]),), ((True, False),), (("zz", "zz"),), ((1, 2),),
        ("".join(first),), ((first, second),), (first[::-1],) if first[::-1] not in board.moves else ("a",),
        (free[0],), (first, free[0]), (free[0], first),
    ]
