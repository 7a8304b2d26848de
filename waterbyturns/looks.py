"""What the present standing of a run may be, and which books can have made a run."""

from waterbyturns.errors import NothingFits, WaterError
from waterbyturns.field import Field
from waterbyturns.lots import in_order


class Looks:
    """A run of a book that starts at one of the told standings, followed by what somebody sees of it."""

    def __init__(self, field, book, standings):
        book.check(field)
        self.field = field
        self.book = book
        self.day = 0
        self._numbers = ()
        self._narrow([field.number(standing) for standing in standings])

    def possible(self):
        """The standings that may be the present one, in ascending order."""
        return [self.field.standing_at(number) for number in self._numbers]

    def look(self, levels, *, tank=None):
        """Keep only the standings with these levels of plots and, if it was seen, with this tank."""
        seen = [(self.field.ground.place_of(name), levels[name]) for name in levels]
        agreeing = [standing for standing in self.possible() if _agrees(standing, seen, tank)]
        self._narrow([self.field.number(standing) for standing in agreeing])

    def pass_day(self):
        """Go one day on with the book."""
        book = self.book
        numbers = {}
        for standing in self.possible():
            for arrival in self.field.moves(standing, book(self.field, standing, self.day)):
                if arrival is not None:
                    numbers[self.field.number(arrival)] = True
        self._narrow(list(numbers))
        self.day += 1

    def span(self, name):
        """The least and the greatest level that the plot may have now."""
        place = self.field.ground.place_of(name)
        levels = [standing.levels[place] for standing in self.possible()]
        return min([int(level) for level in levels]), max([int(level) for level in levels])

    def _narrow(self, numbers):
        """Take these as the numbers of the possible standings; NothingFits if there are none."""
        if not numbers:
            raise NothingFits(self.day)
        self._numbers = in_order(numbers)


def told_back(ground, weathers, books, rows):
    """The places (weather, book) of all pairs for which the rows can be a run."""
    pairs = []
    for place, weather in enumerate(weathers):
        if weather.width == len(ground.plots):
            field = Field(ground, weather)
            pairs.extend([(place, at) for at, book in enumerate(books) if _is_run(field, book, rows)])
    return pairs


def _agrees(standing, seen, tank):
    if tank is not None and standing.tank != tank:
        return False
    return all([standing.levels[place] == level for place, level in seen])


def _is_run(field, book, rows):
    if not all([field.fits(row) for row in rows]) or not _is_taken(field, book):
        return False
    for day, row in enumerate(rows[1:]):
        before = rows[day]
        if row not in field.moves(before, book(field, before, day)):
            return False
    return True


def _is_taken(field, book):
    """Whether the book fits the field."""
    try:
        book.check(field)
    except WaterError:
        return False
    return True
