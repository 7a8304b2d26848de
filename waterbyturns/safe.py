"""Which standings of a field are safe, and by which turns."""

from waterbyturns.errors import NotSafe
from waterbyturns.rounds import good_options, ranks
from waterbyturns.upsets import UpSet


class Safe:
    """The safe and the lost standings of a field."""

    def __init__(self, field):
        self.field = field
        self._turns = field.ground.turns()
        # A day that dries out a plot makes the whole turn fail at once, whatever the other days do.
        self._game = [[None if None in row else row for row in rows] for rows in field.arrivals()]
        self._found = ranks(self._game)
        self.least = UpSet([standing for standing, rank in zip(field.standings(), self._found) if rank == 0])

    def keeps(self, standing):
        """Whether the standing is safe."""
        return self.rank(standing) == 0

    def turns(self, standing):
        """All good turns at the standing, in order."""
        node = self.field.number(standing)
        return [self._turns[place] for place in good_options(self._game, self._found, node)]

    def first_turn(self, standing):
        """The first good turn; NotSafe if there is none."""
        turns = self.turns(standing)
        if not turns:
            raise NotSafe(standing)
        return turns[0]

    def rank(self, standing):
        """0 for a safe standing, else the least number of days within which the weather can dry out a plot."""
        return self._found[self.field.number(standing)]

    def longest(self):
        """The greatest rank of all standings."""
        return max([int(rank) for rank in self._found])
