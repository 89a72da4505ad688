"""Boards for the tests, and the definitions of the document written out a second time, as slow as they may be."""

import itertools
import random

from forbidmoves.boards import Board, Field


NOT_STRINGS = [None, True, False, 0, 1, b"a", ["a"], ("a",), {"a": 1}, {"a"}, object(), str]
NOT_NAMES = ["", "A", "aB", "abcdefghi", "a b", " a", "a ", "a\n", "\n", "a1", "1", "a_", "_", "-", "\u00e9",
             "\u00df", "\u0430", "\uff41", "`", "{", "a`", "{a", "\0"]
NOT_BOARDS = [None, True, 0, "a", [], (), {}, {"a": Field(1)}, Field(1), Board, object()]


def made(raw, start, prices=()):
    """Return the board of a dict from names to (owner, targets, goal), and of pairs of a move and its cost."""
    fields = {name: Field(owner, *targets, goal=goal) for name, (owner, targets, goal) in raw.items()}
    return Board(fields, start, dict(prices))


def example():
    """Return the board of the document's examples."""
    fields = {"a": Field(1, "b"), "b": Field(2, "a", "c"), "c": Field(1, goal=True)}
    return Board(fields, "a", {("b", "a"): 2, ("a", "b"): 1})


def some_boards(many, most_fields=8, seed=1):
    """Yield pairs (raw, board), the same ones each time."""
    draw = random.Random(seed)
    for _ in range(many):
        names = draw.sample(["a", "b", "c", "d", "e", "f", "g", "abcdefgh"], draw.randint(1, most_fields))
        raw = {}
        for name in names:
            targets = tuple(draw.sample(names, draw.randint(0, min(3, len(names)))))
            raw[name] = (draw.randint(1, 2), targets, draw.random() < 0.2)
        moves = [(name, target) for name in names for target in raw[name][1]]
        priced = draw.sample(moves, draw.randint(0, min(6, len(moves))))
        prices = {move: draw.randint(1, 9) for move in priced}
        yield raw, made(raw, draw.choice(names), prices)


def sets_of(board):
    """List all sets of moves of a board."""
    moves = board.moves
    return [chosen for many in range(len(moves) + 1) for chosen in itertools.combinations(moves, many)]


def steps_of(raw, forbidden, name):
    """List the targets to which the moves of a field that are not forbidden lead."""
    return [target for target in raw[name][1] if (name, target) not in forbidden]


def wins_within(raw, forbidden, name, moves):
    """Tell whether the first player can force a win within a number of moves: point 5, word by word."""
    owner, _, goal = raw[name]
    steps = steps_of(raw, forbidden, name)
    if goal or (owner == 2 and not steps):
        return True
    if moves == 0:
        return False
    if owner == 1:
        return any(wins_within(raw, forbidden, target, moves - 1) for target in steps)
    return all(wins_within(raw, forbidden, target, moves - 1) for target in steps)


def distance_of(raw, forbidden, name):
    """Return the least number of moves within which the first player can force a win, or None."""
    for moves in range(len(raw) + 1):
        if wins_within(raw, forbidden, name, moves):
            return moves
    return None


def ranks_by_the_words(raw, start, forbidden, ranks):
    """Tell whether a dict is ranks for a set: point 6, word by word."""
    for name in ranks:
        owner, _, goal = raw[name]
        steps = steps_of(raw, forbidden, name)
        smaller = [target for target in steps if target in ranks and ranks[target] < ranks[name]]
        fits = goal or (owner == 2 and len(smaller) == len(steps)) or (owner == 1 and len(smaller) > 0)
        if not fits:
            return False
    return start in ranks


def trap_by_the_words(raw, start, trap):
    """Tell whether a dict is a trap: the first half of point 7, word by word."""
    for name, target in trap.items():
        owner, targets, goal = raw[name]
        if goal:
            return False
        if owner == 1 and target is not None:
            return False
        if owner == 2 and (target not in targets or target not in trap):
            return False
    return start in trap


def holds_by_the_words(raw, start, forbidden, trap):
    """Tell whether a dict is a trap that holds against a set: point 7, word by word."""
    if not trap_by_the_words(raw, start, trap):
        return False
    for name, target in trap.items():
        if raw[name][0] == 2 and (name, target) in forbidden:
            return False
        if raw[name][0] == 1 and any(step not in trap for step in steps_of(raw, forbidden, name)):
            return False
    return True


def dicts_over(names, values):
    """Yield all dicts from some of the names to some of the values."""
    absent = object()
    for chosen in itertools.product([absent, *values], repeat=len(names)):
        yield {name: value for name, value in zip(names, chosen) if value is not absent}


def not_sets(board):
    """List values that are not sets of a board that has at least two prices."""
    first, second = board.moves[0], board.moves[1]
    free = [(name, target) for name in board.names for target in board.names if (name, target) not in board.moves]
    return [
        None, True, False, 0, 1, "", "ab", b"", [], [first], {}, {first: 1}, set(), {first}, frozenset(), first,
        object(),
        (second, first), (first, first), (first, second, first), (first, second, second), (second, second),
        (list(first),), (first, list(second)), (first[0],), (first[:1],), (first + ("a",),), ((),),
        (None,), (True,), (0,), (1,), (first, 1), ({},), ({"a": 1},),
        (([first[0]], first[1]),), ((first[0], [first[1]]),), ((True, False),), (("zz", "zz"),), ((1, 2),),
        ("".join(first),), ((first, second),), (first[::-1],) if first[::-1] not in board.moves else ("a",),
        (free[0],), (first, free[0]), (free[0], first),
    ]
