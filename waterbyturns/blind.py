"""Hands that see nothing."""

from waterbyturns.errors import BadNumber
from waterbyturns.lots import LeastLots, reached
from waterbyturns.rounds import good_options, ranks
from waterbyturns.safe import Safe
from waterbyturns.words import check_number

_LONGEST_RING = 4


class Blind:
    """What a hand that sees nothing can keep in a field."""

    def __init__(self, field):
        self.field = field
        self._lots = LeastLots(field)

    def after(self, standings, turn):
        """The UpSet of all standings to which the turn leads; None if it may dry out a plot."""
        start = self._lot_of(standings)
        lot = self._lots.moved(start, self._place_of(turn))
        return None if lot is None else self._lots.upset(lot)

    def keeps(self, standings):
        """Whether turns that are fixed ahead keep all plots from each of the standings for ever."""
        _, game = reached(self._lots, [self._lot_of(standings)])
        return ranks(game)[0] == 0

    def rounds(self, standings):
        """Turns to be made once and then turns to be made again and again, which keep the standings; or None."""
        rows, game = reached(self._lots, [self._lot_of(standings)])
        found = ranks(game)
        if found[0] > 0:
            return None
        turns = self.field.ground.turns()
        node, made = 0, []
        passed = [self._lots.upset(rows[0])]
        while True:
            option = good_options(game, found, node)[0]
            node = game[node][option][0]
            made.append(turns[option])
            lot = self._lots.upset(rows[node])
            first = _first_with(passed, lot)
            if first is not None:
                return tuple(made[:first]), tuple(made[first:])
            passed.append(lot)

    def holds(self, standings, ahead, ring):
        """Whether the turns of ahead, and then those of the ring again and again, keep the standings."""
        start = self._lot_of(standings)
        if len(ring) == 0:
            raise BadNumber("ring", 0)
        first = [self._place_of(turn) for turn in ahead]
        again = [self._place_of(turn) for turn in ring]
        laps = Laps(self._lots)
        lot = laps.come_to(start, first)
        return lot is not None and laps.go_on(lot, again)

    def shortest_ring(self, standings, *, most=4):
        """The first of the shortest rings of turns that keep the standings from the start; None if all are longer."""
        start = self._lot_of(standings)
        check_number("most", most, 1, _LONGEST_RING)
        turns = self.field.ground.turns()
        safe = Safe(self.field)
        kept = [safe.keeps(standing) for standing in self.field.standings()]
        laps = Laps(self._lots)
        rows = [([], start)]
        for _ in range(most):
            rows = [([*ring, place], laps.come_to(lot, [place])) for ring, lot in rows for place in range(len(turns))]
            # From a lost standing no ring keeps the plots, so such rows are not made longer.
            rows = [(ring, lot) for ring, lot in rows if lot is not None and all([kept[number] for number in lot])]
            for ring, _ in rows:
                if laps.go_on(start, ring):
                    return tuple([turns[place] for place in ring])
        return None

    def _lot_of(self, standings):
        return self._lots.lot_of([self.field.number(standing) for standing in standings])

    def _place_of(self, turn):
        """The place of the turn in the list of turns."""
        return self.field.ground.turns().index(self.field.ground.turn_of(turn))


class Laps:
    """Turns that are made one after the other; what a turn does to a lot is found out only once."""

    def __init__(self, lots):
        self._lots = lots
        self._known = {}

    def come_to(self, lot, places):
        """The lot to which the turns at these places in the list of turns lead; None if one of them fails."""
        here = lot
        for place in places:
            key = (here, place)
            if key not in self._known:
                self._known[key] = self._lots.moved(here, place)
            here = self._known[key]
            if here is None:
                return None
        return here

    def go_on(self, lot, ring):
        """Whether the turns of the ring can be made again and again from the lot."""
        # The lots at the beginning of all laps so far are joined, so that they can only grow, and not for ever.
        joined = lot
        while True:
            later = self.come_to(joined, ring)
            if later is None:
                return False
            grown = self._lots.lot_of([*joined, *later])
            if grown == joined:
                return True
            joined = grown


def _first_with(passed, lot):
    """The place of the first of the lots that contains the lot, or None."""
    for place, earlier in enumerate(passed):
        if lot <= earlier:
            return place
    return None
