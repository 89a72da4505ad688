"""The cheapest moves of a game to forbid so that the first player can force a win."""
