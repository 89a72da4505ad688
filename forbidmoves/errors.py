"""The errors of the package: all of them are a MoveError."""


class MoveError(ValueError):
    """An argument that the package refuses, or a call that cannot be done now."""


class BadField(MoveError):
    """The arguments do not form a field."""


class BadBoard(MoveError):
    """The arguments do not form a board, or an argument is not one; `part` says where."""

    def __init__(self, part=None):
        # The part may be a key of any kind, so the message does not show it.
        super().__init__("not a board")
        self.part = part


class BadName(MoveError):
    """A value is not the name of a field, or not a move that has a price."""


class BadSet(MoveError):
    """A value is not a set of moves of the board."""


class BadPlay(MoveError):
    """A value is not a play; `index` is that of the first wrong item, or None."""

    def __init__(self, index=None):
        super().__init__("not a play")
        self.index = index


class BadRanks(MoveError):
    """A value is not a dict from fields of the board to integers of at least 0."""


class BadTrap(MoveError):
    """A value is not a dict from fields of the board to fields of the board or None."""


class NoMove(MoveError):
    """The token cannot be moved to a field now."""


class NothingMoved(MoveError):
    """There is no step to take back."""


class NotWinning(MoveError):
    """A set of moves is not winning."""


class BadText(MoveError):
    """A text is not that of a board; `row` is the index of a line."""

    def __init__(self, row=0):
        super().__init__("not the text of a board")
        self.row = row
