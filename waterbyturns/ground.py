"""Plots, the gates along their channel, and grounds."""

from waterbyturns.errors import BadName, BadTurn
from waterbyturns.words import MOST_PLOTS, MOST_UNITS, check_name, check_number


class Plot:
    """A plot: its name, the most that it holds, and the most that one turn gives it."""

    def __init__(self, name, hold, drink):
        self.name = check_name(name)
        self.hold = check_number("hold", hold, 1, MOST_UNITS)
        self.drink = check_number("drink", drink, 1, MOST_UNITS)

    def __eq__(self, other):
        return (isinstance(other, Plot) and self.name == other.name
                and self.hold == other.hold and self.drink == other.drink)


class Gates:
    """Gates: a turn is allowed if one of the groups has all its names."""

    def __init__(self, *groups):
        for group in groups:
            check_group(group)
        self.groups = _outer_groups(groups)

    def __contains__(self, x):
        return len(x) == 0 or any([_is_within(x, group) for group in self.groups])

    def __le__(self, other):
        if not isinstance(other, Gates):
            return NotImplemented
        return all([group in other for group in self.groups])

    def __eq__(self, other):
        return isinstance(other, Gates) and self.groups == other.groups

    def __or__(self, other):
        if not isinstance(other, Gates):
            return NotImplemented
        groups = [*self.groups, *other.groups]
        return Gates(*groups)

    def __and__(self, other):
        if not isinstance(other, Gates):
            return NotImplemented
        groups = [_shared(one, two) for one in self.groups for two in other.groups]
        return Gates(*groups)

    def __len__(self):
        return len(self.groups)


class Ground:
    """Plots along one channel, with gates and a tank."""

    def __init__(self, plots, gates, tank):
        check_number("plots", len(plots), 1, MOST_PLOTS)
        names = _different_names(plots)
        _check_known(gates, names)
        self._tank = check_number("tank", tank, 0, MOST_UNITS)
        self.plots = tuple(plots)
        self.names = names
        self.gates = gates
        self._turns = _allowed_turns(names, gates)

    @property
    def capacity(self):
        """The tank size."""
        return self._tank

    @capacity.setter
    def capacity(self, value):
        self._tank = check_number("tank", value, 0, MOST_UNITS)

    def __eq__(self, other):
        return (isinstance(other, Ground) and self.plots == other.plots
                and self.gates == other.gates and self._tank == other._tank)

    def resize(self, size):
        """Give the ground another tank size."""
        self.capacity = size

    def with_tank(self, size):
        """A new ground with another tank size."""
        return Ground(self.plots, self.gates, size)

    def with_gates(self, gates):
        """A new ground with other gates."""
        return Ground(self.plots, gates, self._tank)

    def turns(self):
        """All allowed turns in ascending order of their numbers."""
        return list(self._turns)

    def turn_of(self, names):
        """The turn with these names, in the order of the ground."""
        for name in names:
            self.place_of(name)
        turn = tuple([name for name in self.names if name in names])
        # A repeated name makes the passed names longer than the turn.
        if len(turn) != len(names) or turn not in self._turns:
            raise BadTurn(names)
        return turn

    def place_of(self, name):
        """The place of the plot with this name, from 0."""
        if name not in self.names:
            raise BadName(name)
        return self.names.index(name)


def check_group(group):
    """Raise BadName for an invalid name of a group, then BadTurn for a repeated one."""
    for name in group:
        check_name(name)
    if len(set(group)) < len(group):
        raise BadTurn(group)


def _is_within(names, group):
    return all([name in group for name in names])


def _shared(group, other):
    return [name for name in group if name in other]


def _outer_groups(groups):
    """The groups, sorted, without the empty ones and those that another one covers."""
    # A space is less than every letter, so the lines stand in the order of their lists of names.
    lines = sorted([str(_line(group)) for group in groups])
    rows = [tuple(line.split()) for line in lines]
    return tuple([row for place, row in enumerate(rows) if row and not _is_covered(rows, place)])


def _line(group):
    return " ".join(sorted([str(name) for name in group]))


def _is_covered(rows, place):
    """Whether another row has all names of this one; of equal rows the first is not covered."""
    row = rows[place]
    for at, other in enumerate(rows):
        if at != place and _is_within(row, other) and (len(other) > len(row) or at < place):
            return True
    return False


def _different_names(plots):
    names = []
    for plot in plots:
        if plot.name in names:
            raise BadName(plot.name)
        names.append(plot.name)
    return tuple(names)


def _check_known(gates, names):
    for group in gates.groups:
        for name in group:
            if name not in names:
                raise BadName(name)


def _allowed_turns(names, gates):
    turns = [_turn_at(names, number) for number in range(1 << len(names))]
    return tuple([turn for turn in turns if turn in gates])


def _turn_at(names, number):
    """The turn with this number: the plot at each place counts twice the one before it."""
    return tuple([name for place, name in enumerate(names) if (number >> place) & 1])
