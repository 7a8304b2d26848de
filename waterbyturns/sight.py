"""Hands that see only a part of a standing."""

from waterbyturns.errors import BadStanding
from waterbyturns.lots import Lots, reached
from waterbyturns.rounds import good_options, ranks, spoilers
from waterbyturns.words import check_different, check_number

_MOST_EVERY = 4


class Sight:
    """What a hand sees, and on which days."""

    def __init__(self, *plots, tank=False, mood=False, every=1):
        names = check_different(plots)
        self.plots = tuple(sorted([str(name) for name in names]))
        self.tank = tank
        self.mood = mood
        self.every = check_number("every", every, 1, _MOST_EVERY)

    def __le__(self, other):
        """Whether the other one sees all that this one sees, and on the same days."""
        if not isinstance(other, Sight):
            return NotImplemented
        if not all([name in other.plots for name in self.plots]) or self.every % other.every != 0:
            return False
        return (other.tank or not self.tank) and (other.mood or not self.mood)

    def seen(self, field, standing):
        """What is seen of the standing: the levels in the order of the ground, then the tank, then the mood."""
        check_sight(field, self)
        if not field.fits(standing):
            raise BadStanding(standing)
        levels = [level for name, level in zip(field.ground.names, standing.levels) if name in self.plots]
        tank = [standing.tank] if self.tank else []
        mood = [standing.mood] if self.mood else []
        return (*levels, *tank, *mood)


class Watch:
    """What a hand with a sight can keep in a field."""

    def __init__(self, field, sight):
        check_sight(field, sight)
        self.field = field
        self.sight = sight
        self._lots = Lots(field, sight)

    def keeps(self, standings):
        """Whether all starting lots are kept."""
        return self.rank(standings) == 0

    def rank(self, standings):
        """0 if all starting lots are kept, else the least rank of one that is not."""
        starts, _, _, found = self._searched(standings)
        return _least_rank(found[:starts])

    def plan(self, standings):
        """Rows (place, lot, turn) that tell how to keep the standings; None if they are not kept."""
        starts, rows, game, found = self._searched(standings)
        if _least_rank(found[:starts]) > 0:
            return None
        turns = self.field.ground.turns()
        nodes = list(range(starts))
        plan = []
        while len(plan) < len(nodes):
            node = nodes[len(plan)]
            place, lot = rows[node]
            option = good_options(game, found, node)[0]
            plan.append((place, self._standings_of(lot), turns[option]))
            nodes = [*nodes, *_fresh(game[node][option], nodes)]
        return plan

    def loss(self, standings):
        """Rows (place, lot, answers) that tell why the standings are not kept; None if they are."""
        starts, rows, game, found = self._searched(standings)
        rank = _least_rank(found[:starts])
        if rank == 0:
            return None
        # The starting lots come first, so the first node of this rank is one of them.
        nodes = _spoiling(game, found, found.index(rank))
        places = {node: place for place, node in enumerate(nodes)}
        loss = []
        for node in nodes:
            place, lot = rows[node]
            answers = [None if target is None else places[target] for target in spoilers(game, found, node)]
            loss.append((place, self._standings_of(lot), tuple(answers)))
        return loss

    def _searched(self, standings):
        """The number of starting lots, all reached rows (place, lot), their game, and its ranks."""
        numbers = [self.field.number(standing) for standing in standings]
        starts = [(0, lot) for lot in self._lots.divided(0, numbers)]
        rows, game = reached(self._lots, starts)
        return len(starts), rows, game, ranks(game)

    def _standings_of(self, lot):
        return tuple([self.field.standing_at(number) for number in lot])


def check_sight(field, sight):
    """Raise BadName for the first name of the sight that no plot has."""
    for name in sight.plots:
        field.ground.place_of(name)


def _least_rank(found):
    """The least rank of those that are not kept, or 0."""
    return min([int(rank) for rank in found if rank > 0], default=0)


def _spoiling(game, found, start):
    """The node and all those by which its options fail, and so on, in ascending order of their ranks."""
    nodes = [start]
    done = 0
    while done < len(nodes):
        nodes = [*nodes, *_fresh(spoilers(game, found, nodes[done]), nodes)]
        done += 1
    return [node for rank in range(1, found[start] + 1) for node in nodes if found[node] == rank]


def _fresh(targets, nodes):
    """The targets that are not among the nodes, each once."""
    fresh = []
    for target in targets:
        if target is not None and target not in nodes and target not in fresh:
            fresh.append(target)
    return fresh
