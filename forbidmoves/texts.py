"""Boards as text: one line for each field, for the start, and for each price."""

from forbidmoves.boards import Board, Field, are_different_names, check_board, is_name
from forbidmoves.errors import BadBoard, BadText

OWNERS = ("1", "2")
COSTS = ("1", "2", "3", "4", "5", "6", "7", "8", "9")


def board_text(board):
    """Return the text of a board."""
    check_board(board)
    lines = [field_line(name, board[name]) for name in board.names]
    lines.append(f"start {board.start}")
    for move in board.moves:
        lines.append(f"price {move[0]} {move[1]} {board.price(move)}")
    return "".join([f"{line}\n" for line in lines])


def field_line(name, field):
    """Return the line of a field."""
    kind = "goal" if field.goal else "field"
    return " ".join([kind, name, str(field.owner)] + list(field.targets))


def read_board(text):
    """Return the board of a text."""
    if not isinstance(text, str):
        raise BadText(0)
    parts = text.split("\n")
    # What follows the last line feed is not a line.
    lines = [part.split(" ") for part in parts[:-1]]
    started = False
    for row, words in enumerate(lines):
        if not is_accepted(words, started):
            raise BadText(row)
        started = started or words[0] == "start"
    if not started or parts[-1] != "":
        raise BadText(len(lines))
    return board_of(lines)


def is_accepted(words, started):
    """Tell whether the words of a line have one of the forms, and one that may stand before or after the start."""
    if words[0] == "price":
        return started and is_price(words)
    return not started and (is_field(words) or is_start(words))


def is_field(words):
    """Tell whether the words are those of a field or a goal."""
    if words[0] not in ("field", "goal") or len(words) < 3:
        return False
    return is_name(words[1]) and words[2] in OWNERS and are_different_names(words[3:])


def is_start(words):
    """Tell whether the words are those of the start."""
    return words[0] == "start" and len(words) == 2 and is_name(words[1])


def is_price(words):
    """Tell whether the words, of which the first one is right, are those of a price."""
    return len(words) == 4 and is_name(words[1]) and is_name(words[2]) and words[3] in COSTS


def board_of(lines):
    """Return the board of the words of accepted lines, one of which is that of the start."""
    fields = [(words[1], field_of(words)) for words in lines if words[0] in ("field", "goal")]
    starts = [words[1] for words in lines if words[0] == "start"]
    prices = [((words[1], words[2]), int(words[3])) for words in lines if words[0] == "price"]
    # In a dict, the last one of two fields or prices would take the place of the first one.
    if len(dict(fields)) != len(fields) or len(dict(prices)) != len(prices):
        raise BadText(0)
    try:
        return Board(dict(fields), starts[0], dict(prices))
    except BadBoard:
        raise BadText(0) from None


def field_of(words):
    """Return the field of the words of its line."""
    owner = int(words[2])
    targets = words[3:]
    goal = words[0] == "goal"
    return Field(owner, *targets, goal=goal)
