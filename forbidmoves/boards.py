"""Fields and boards, and the checks of arguments that all parts of the package share."""

from forbidmoves.errors import BadBoard, BadField, BadName, BadPlay, BadSet

LONGEST_NAME = 8
MOST_FIELDS = 8
MOST_PRICES = 6
HIGHEST_COST = 9


def is_name(value):
    """Tell whether a value is a name."""
    if not isinstance(value, str) or not 1 <= len(value) <= LONGEST_NAME:
        return False
    return all(["a" <= letter <= "z" for letter in value])


def is_number(value):
    """Tell whether a value is an integer."""
    # Python counts True and False as integers, the document does not.
    return isinstance(value, int) and not isinstance(value, bool)


def are_different_names(values):
    """Tell whether the values are names, none of them twice."""
    seen = {}
    for value in values:
        if not is_name(value) or value in seen:
            return False
        seen[value] = True
    return True


class Field:
    """A field: its owner, its targets, and whether it is a goal."""

    def __init__(self, owner, *targets, goal=False):
        if not is_number(owner) or owner not in (1, 2):
            raise BadField("the owner is neither 1 nor 2")
        if not are_different_names(targets):
            raise BadField("the targets are not different names")
        if not isinstance(goal, bool):
            raise BadField("goal is not a boolean")
        self._owner = owner
        self._targets = targets
        self._goal = goal

    @property
    def owner(self):
        """The number of the player who moves the token from here."""
        return self._owner

    @property
    def targets(self):
        """The tuple of the names of the targets."""
        return self._targets

    @property
    def goal(self):
        """Whether the first player has won here."""
        return self._goal

    def __contains__(self, x):
        # Only strings are compared: another value may claim to equal a name.
        return isinstance(x, str) and x in self._targets

    def __len__(self):
        return len(self._targets)

    def __neg__(self):
        other_owner = 3 - self._owner
        return Field(other_owner, *self._targets, goal=self._goal)

    def __eq__(self, other):
        return (
            isinstance(other, Field)
            and self._owner == other._owner
            and self._targets == other._targets
            and self._goal == other._goal
        )


class Board:
    """A board: its fields, its start, and the prices of the moves that can be forbidden."""

    def __init__(self, fields, start, prices):
        check_fields(fields)
        if not isinstance(start, str) or start not in fields:
            raise BadBoard("START")
        if not are_prices(fields, prices):
            raise BadBoard("PRICES")
        self._fields = {name: fields[name] for name in fields}
        self._start = start
        self._prices = {move: prices[move] for move in prices}

    @property
    def names(self):
        """The list of the names of the fields."""
        return list(self._fields)

    @property
    def start(self):
        """The name of the field where the token is at first."""
        return self._start

    @property
    def moves(self):
        """The list of the moves that have a price."""
        return list(self._prices)

    def __getitem__(self, at):
        if not isinstance(at, str) or at not in self._fields:
            raise BadName("not the name of a field")
        return self._fields[at]

    def __iter__(self):
        # Without this, Python would iterate over a board by asking for board[0].
        raise TypeError("a board is not iterated over")

    def __contains__(self, x):
        return is_pair_of_strings(x) and x in self._prices

    def __len__(self):
        return len(self._prices)

    def __sub__(self, other):
        check_set(self, other)
        fields = {name: field_without(name, self._fields[name], other) for name in self._fields}
        prices = {move: self._prices[move] for move in self._prices if move not in other}
        return Board(fields, self._start, prices)

    def __call__(self, play, forbidden=()):
        check_set(self, forbidden)
        check_play(self, play, forbidden)
        return next_fields(self, play[-1], forbidden)

    def price(self, move):
        """Return the cost of forbidding a move."""
        if move not in self:
            raise BadName("not a move that has a price")
        return self._prices[move]

    def __eq__(self, other):
        # Lists of the items, because two dicts are equal in whatever order they are.
        return (
            isinstance(other, Board)
            and list(self._fields.items()) == list(other._fields.items())
            and self._start == other._start
            and list(self._prices.items()) == list(other._prices.items())
        )


def check_fields(fields):
    """Raise BadBoard if a value is not a dict of fields, each with targets among them."""
    if not isinstance(fields, dict) or not 1 <= len(fields) <= MOST_FIELDS:
        raise BadBoard(None)
    names = [key for key in fields if is_name(key)]
    for key in fields:
        if not is_name(key) or not is_field_within(fields[key], names):
            raise BadBoard(key)


def is_field_within(value, names):
    """Tell whether a value is a field all of whose targets are among the names."""
    return isinstance(value, Field) and all([target in names for target in value.targets])


def are_prices(fields, prices):
    """Tell whether a value is a dict from moves between the fields to costs."""
    if not isinstance(prices, dict) or len(prices) > MOST_PRICES:
        return False
    return all([is_move(fields, move) and is_cost(prices[move]) for move in prices])


def is_move(fields, value):
    """Tell whether a value is a pair of a field and one of its targets."""
    return is_pair_of_strings(value) and value[0] in fields and value[1] in fields[value[0]]


def is_cost(value):
    """Tell whether a value is a cost of forbidding a move."""
    return is_number(value) and 1 <= value <= HIGHEST_COST


def is_pair_of_strings(value):
    """Tell whether a value is a tuple of two strings, and so can be looked up among moves."""
    if not isinstance(value, tuple) or len(value) != 2:
        return False
    return isinstance(value[0], str) and isinstance(value[1], str)


def field_without(name, field, moves):
    """Return the field of that name without the targets of the moves."""
    targets = [target for target in field.targets if (name, target) not in moves]
    owner = field.owner
    goal = field.goal
    return Field(owner, *targets, goal=goal)


def steps_from(board, name, forbidden):
    """List the fields to which moves from a field that are not forbidden lead, in the order of the board."""
    field = board[name]
    return [target for target in board.names if target in field and (name, target) not in forbidden]


def next_fields(board, name, forbidden):
    """List the fields to which the token can be moved from a field, in the order of the board."""
    if board[name].goal:
        return []
    return steps_from(board, name, forbidden)


def has_field(board, value):
    """Tell whether a value is the name of a field of the board."""
    return isinstance(value, str) and value in board.names


def check_board(value):
    """Raise BadBoard if a value is not a board."""
    if not isinstance(value, Board):
        raise BadBoard(None)


def check_set(board, value):
    """Raise BadSet if a value is not a tuple of moves with a price, in the order of the prices."""
    if not isinstance(value, tuple):
        raise BadSet("not a tuple")
    for move in value:
        if move not in board:
            raise BadSet("not a move that has a price")
    if list(value) != [move for move in board.moves if move in value]:
        raise BadSet("a move twice, or not in the order of the prices")


def check_play(board, value, forbidden):
    """Raise BadPlay if a value is not a play under the forbidden moves."""
    if not isinstance(value, tuple):
        raise BadPlay(None)
    if len(value) == 0 or not isinstance(value[0], str) or value[0] != board.start:
        raise BadPlay(0)
    for at in range(1, len(value)):
        if not can_step(board, value[at - 1], value[at], forbidden):
            raise BadPlay(at)


def can_step(board, name, value, forbidden):
    """Tell whether a value is a field to which the token can be moved from a field."""
    field = board[name]
    return not field.goal and value in field and (name, value) not in forbidden
