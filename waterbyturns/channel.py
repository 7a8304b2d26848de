"""A live run: days that are played, taken back and looked at."""

from waterbyturns.errors import BadDeed, BadStanding, NothingToUndo, Unlike, WaterError
from waterbyturns.words import check_number

_MOST_UNDONE = 999


class Channel:
    """A run in a field from a standing on."""

    def __init__(self, field, standing):
        self.field = field
        self.begin(standing)

    @property
    def present(self):
        """The present standing."""
        return self._last(self._past)

    @present.setter
    def present(self, value):
        if not self.field.fits(value):
            raise BadStanding(value)
        self._start = value
        self._go([])

    def begin(self, standing):
        """Start a new run from the standing."""
        self.present = standing

    def play(self, turn, day):
        """Go one day and return the new standing."""
        self._go([*self._past, self._played(self._past, turn, day)])
        return self.present

    def undo(self, count=1):
        """Take back the last days and return the standing."""
        check_number("count", count, 1, _MOST_UNDONE)
        if count > self.days:
            raise NothingToUndo()
        self._go(self._past[:-count])
        return self.present

    def history(self):
        """The turn and the day of each day gone."""
        return [(turn, day) for turn, day, _ in self._past]

    def play_all(self, *deeds):
        """Play all deeds (turn, day), or none of them; return the present standing."""
        gone = list(self._past)
        for place, (turn, day) in enumerate(deeds):
            try:
                row = self._played(gone, turn, day)
            except WaterError as e:
                raise BadDeed(place) from e
            gone.append(row)
        self._go(gone)
        return self.present

    def follow(self, book, *days):
        """Play the turns of the book on all of these days, or none; return the present standing."""
        book.check(self.field)
        gone = list(self._past)
        for place, day in enumerate(days):
            try:
                turn = book(self.field, self._last(gone), len(gone))
                row = self._played(gone, turn, day)
            except WaterError as e:
                raise BadDeed(place) from e
            gone.append(row)
        self._go(gone)
        return self.present

    def advice(self, safe):
        """All good turns at the present standing."""
        if safe.field != self.field:
            raise Unlike()
        return safe.turns(self.present)

    def missed(self, name):
        """The number of days since the plot was last in a turn."""
        self.field.ground.place_of(name)
        count = 0
        for turn, _, _ in self._past[::-1]:
            if name in turn:
                return count
            count += 1
        return count

    def _last(self, gone):
        """The standing after the days gone."""
        return gone[-1][2] if gone else self._start

    def _played(self, gone, turn, day):
        """What is kept of one more day: its turn, its day, and the standing after it."""
        later = self.field.after(self._last(gone), turn, day)
        return self.field.ground.turn_of(turn), day, later

    def _go(self, gone):
        self._past = gone
        self.days = len(gone)
