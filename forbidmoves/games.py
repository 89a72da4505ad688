"""Games: the token is moved step by step, and steps are taken back."""

from forbidmoves.boards import can_step, check_play, has_field, next_fields
from forbidmoves.errors import BadName, NoMove, NothingMoved
from forbidmoves.winning import distances


class Game:
    """A game on a board with a set of forbidden moves."""

    def __init__(self, board, forbidden=()):
        self._distances = distances(board, forbidden)
        self._board = board
        self._forbidden = forbidden
        # Without the start, so that there is one item for each step.
        self._steps = []

    @classmethod
    def after(cls, board, play, forbidden=()):
        """Return a game after a play."""
        game = cls(board, forbidden)
        check_play(board, play, forbidden)
        for name in play[1:]:
            game.move(name)
        return game

    @property
    def path(self):
        """The play so far."""
        return (self._board.start, *self._steps)

    @property
    def spot(self):
        """The name of the field of the token."""
        if len(self._steps) == 0:
            return self._board.start
        return self._steps[-1]

    @property
    def winner(self):
        """The number of the player who has won, or None if the game is not over."""
        field = self._board[self.spot]
        if field.goal:
            return 1
        if len(next_fields(self._board, self.spot, self._forbidden)) > 0:
            return None
        # The owner of the field cannot move the token, and so has lost.
        return 3 - field.owner

    def move(self, name):
        """Move the token to a field, and return the winner then, or None."""
        if name not in self:
            raise NoMove("the token cannot be moved there now")
        self._steps.append(name)
        return self.winner

    def undo(self):
        """Take back the last step, and return the name of the field from which the token came back."""
        if len(self._steps) == 0:
            raise NothingMoved("no step was made")
        return self._steps.pop()

    def good(self):
        """Yield the names of the fields to which good moves lead, in the order of the board."""
        # A list that is made before the first name is yielded, so that it stays as it is when the token is moved.
        for name in good_fields(self._board, self._forbidden, self._distances, self.spot):
            yield name

    def __contains__(self, x):
        if not has_field(self._board, x):
            raise BadName("not the name of a field")
        return can_step(self._board, self.spot, x, self._forbidden)

    def __len__(self):
        return len(self._steps)

    def __bool__(self):
        return self._distances[self.spot] is not None


def good_fields(board, forbidden, found, spot):
    """List the fields to which good moves lead from a spot, with the distances that were found."""
    ahead = next_fields(board, spot, forbidden)
    best = best_distance(board[spot].owner, found[spot], [found[name] for name in ahead])
    return [name for name in ahead if found[name] == best]


def best_distance(owner, here, ahead):
    """Return the distance of the fields to which a player's good moves lead, None for fields without one."""
    known = [distance for distance in ahead if distance is not None]
    # Where the first player has no distance, no move leads to one: all of them are good then.
    if here is None or len(known) == 0:
        return None
    return min(known) if owner == 1 else max(known)
