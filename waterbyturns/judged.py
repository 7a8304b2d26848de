"""What becomes of a field if a written book gives all turns."""

from waterbyturns.errors import TooMany
from waterbyturns.rounds import ranks
from waterbyturns.words import check_day

_MOST_NODES = 12000


class Judged:
    """The standings that a book keeps, and those that it loses."""

    def __init__(self, field, book):
        book.check(field)
        if field.size * book.period > _MOST_NODES:
            raise TooMany(_MOST_NODES)
        self.field = field
        self.book = book
        # A node is a place and a standing: the nodes of place 0 come first, each place in the order of the standings.
        self._turns = _given_turns(field, book)
        self._arrivals = _arrivals(field, self._turns)
        # The book leaves the hand no choice, so each node has one option.
        self._found = ranks([[self._option(node)] for node in range(len(self._turns))])

    def keeps(self, standing, *, day=0):
        """Whether no run that starts with that day at the standing ever dries out a plot."""
        return self.rank(standing, day=day) == 0

    def kept(self, *, day=0):
        """All kept standings in ascending order."""
        first = self._node(0, check_day(day))
        return [standing for number, standing in enumerate(self.field.standings())
                if self._found[first + number] == 0]

    def rank(self, standing, *, day=0):
        """0 if the standing is kept, else the number of days of the shortest run that dries out a plot."""
        number = self.field.number(standing)
        return self._found[self._node(number, check_day(day))]

    def drying(self, standing, *, day=0):
        """The days of the first of the shortest runs that dry out a plot; None if the standing is kept."""
        if self.keeps(standing, day=day):
            return None
        days = []
        number = self.field.number(standing)
        while number is not None:
            worst = self._worst_day(number, day + len(days))
            number = self.arrivals_at(number, day + len(days))[worst]
            days.append(worst)
        return days

    def harm(self, *, day=0):
        """The first kept standing, and a fuller one by one unit, that is not kept; None if there is none."""
        for standing in self.kept(day=day):
            for fuller in self.field.beside(standing, 1):
                if not self.keeps(fuller, day=day):
                    return standing, fuller
        return None

    def watering_harm(self, *, day=0):
        """The first kept standing, and a turn after whose water alone it is not kept; None if there is none."""
        for standing in self.kept(day=day):
            for turn in self.field.ground.turns():
                if not self.keeps(self.field.watered(standing, turn), day=day):
                    return standing, turn
        return None

    def turn_at(self, number, day):
        """The turn that the book gives on that day at the standing with this number."""
        return self._turns[self._node(number, day)]

    def arrivals_at(self, number, day):
        """For each day of the mood the number of the standing after that turn, or None if a plot dries out."""
        return list(self._arrivals[self._node(number, day)])

    def _node(self, number, day):
        return day % self.book.period * self.field.size + number

    def _option(self, node):
        day, number = divmod(node, self.field.size)
        arrivals = self.arrivals_at(number, day)
        return None if None in arrivals else [self._node(arrival, day + 1) for arrival in arrivals]

    def _worst_day(self, number, day):
        """The first day with which a shortest run to a dry plot begins."""
        arrivals = self.arrivals_at(number, day)
        if None in arrivals:
            return arrivals.index(None)
        later = [self._found[self._node(arrival, day + 1)] for arrival in arrivals]
        return later.index(self._found[self._node(number, day)] - 1)


def _given_turns(field, book):
    """The turns of the book at all standings, place after place."""
    rows = list(field.standings())
    return [field.ground.turn_of(book(field, row, place)) for place in range(book.period) for row in rows]


def _arrivals(field, turns):
    """For each node: where each day leads after its turn."""
    places = {turn: place for place, turn in enumerate(field.ground.turns())}
    arrivals = field.arrivals()
    return [arrivals[node % field.size][places[turn]] for node, turn in enumerate(turns)]
