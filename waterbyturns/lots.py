"""Lots: sets of standings of which one is the true one, as far as a hand can know."""

from waterbyturns.errors import TooMany
from waterbyturns.upsets import UpSet, code_of, free_bits, is_above_some

_MOST_LOTS = 400


class Lots:
    """The lots of a hand with a sight; a lot is a tuple of the numbers of its standings, in ascending order."""

    def __init__(self, field, sight):
        self.every = sight.every
        self._seen = [sight.seen(field, standing) for standing in field.standings()]
        self._arrivals = field.arrivals()
        self._turns = field.ground.turns()

    def divided(self, place, numbers):
        """The lots into which the standings with these numbers fall on a day of the place."""
        lot = in_order(numbers)
        if place != 0:
            return [lot] if lot else []
        parts = {}
        for number in lot:
            parts.setdefault(self._seen[number], []).append(number)
        return [tuple(part) for part in parts.values()]

    def led(self, place, lot, turn):
        """The lots to which the turn at this place in the list of turns leads; None if it fails."""
        found = {}
        for number in lot:
            for arrival in self._arrivals[number][turn]:
                if arrival is None:
                    return None
                found[arrival] = True
        return self.divided(self.later(place), found)

    def later(self, place):
        """The place of the next day."""
        return (place + 1) % self.every

    def options(self, row):
        """For each turn the rows (place, lot) to which it leads from the row, or None if it fails."""
        place, lot = row
        led = [self.led(place, lot, turn) for turn in range(len(self._turns))]
        return [None if lots is None else [(self.later(place), later) for later in lots] for lots in led]


class LeastLots:
    """The lots of a hand that sees nothing, for which a lot is as good as its least standings: a lot is a tuple of the
    numbers of these, in ascending order."""

    def __init__(self, field):
        self._rows = list(field.standings())
        self._codes = [code_of(standing) for standing in self._rows]
        self._bits = free_bits(len(field.ground.plots))
        self._arrivals = field.arrivals()
        self._count = len(field.ground.turns())

    def lot_of(self, numbers):
        """The lot of the standings with these numbers."""
        lot = []
        codes = []
        # No standing is above one with a greater number.
        for number in in_order(numbers):
            code = self._codes[number]
            if not is_above_some(code, codes, self._bits):
                lot.append(number)
                codes.append(code)
        return tuple(lot)

    def upset(self, lot):
        """The UpSet of the standings of the lot."""
        return UpSet([self._rows[number] for number in lot])

    def moved(self, lot, turn):
        """The lot to which the turn at this place in the list of turns leads; None if it fails."""
        found = {}
        for number in lot:
            for arrival in self._arrivals[number][turn]:
                if arrival is None:
                    return None
                found[arrival] = True
        return self.lot_of(list(found))

    def options(self, row):
        """For each turn the one lot to which it leads from the lot, or None if it fails."""
        lots = [self.moved(row, turn) for turn in range(self._count)]
        return [None if lot is None else [lot] for lot in lots]


def in_order(numbers):
    """The numbers as a tuple in ascending order, each once."""
    found = {number: True for number in numbers}
    return tuple(sorted([int(number) for number in found]))


def reached(lots, starts):
    """The rows that are reached from the starting ones, which come first, and the game that their options are."""
    rows = list(starts)
    nodes = {start: node for node, start in enumerate(starts)}
    game = []
    while len(game) < len(rows):
        if len(rows) > _MOST_LOTS:
            raise TooMany(_MOST_LOTS)
        options = lots.options(rows[len(game)])
        for option in options:
            for row in option or ():
                if row not in nodes:
                    nodes[row] = len(rows)
                    rows.append(row)
        game.append([None if option is None else [nodes[later] for later in option] for option in options])
    return rows, game
