"""Written books: which turn is given at each standing on each day."""

from math import lcm

from waterbyturns.errors import BadStanding, TooMany
from waterbyturns.ground import check_group
from waterbyturns.words import MOST_PLOTS, MOST_UNITS, check_day, check_different, check_new, check_number

_MOST_TURNS = 12
_LONGEST_PERIOD = 60
_MOST_BOOKS = 8


class Book:
    """The base class of all books."""

    def __or__(self, other):
        if not isinstance(other, Book):
            return NotImplemented
        return ElseBook(self, other)

    def __eq__(self, other):
        return isinstance(other, Book) and str(self) == str(other)


class DaysBook(Book):
    """Gives its turns one after the other, again and again, at whatever standing."""

    def __init__(self, *turns):
        check_number("turns", len(turns), 1, _MOST_TURNS)
        for turn in turns:
            check_group(turn)
        self._turns = tuple([tuple(turn) for turn in turns])
        self.period = len(turns)

    def __call__(self, field, standing, day=0):
        _check_call(self, field, standing, day)
        return field.ground.turn_of(self._turns[day % self.period])

    def check(self, field):
        """Raise the error of the first turn that does not fit the ground."""
        for turn in self._turns:
            field.ground.turn_of(turn)

    def __str__(self):
        return " ".join(["days", *[turn_text(turn) for turn in self._turns]])


class DriestBook(Book):
    """Gives the plots of the order that are not full, the driest ones first, as far as the gates allow."""

    def __init__(self, *order):
        self._order = _checked_order(order)
        self.period = 1

    def __call__(self, field, standing, day=0):
        _check_call(self, field, standing, day)
        levels = _levels(field, standing)
        thirsty = _not_full(field, standing, self._order)
        wanted = [name for level in range(MOST_UNITS) for name in thirsty if levels[name] == level]
        return _allowed(field, wanted)

    def check(self, field):
        """Raise BadName for the first name that no plot has."""
        _check_known(field, self._order)

    def __str__(self):
        return " ".join(["driest", *self._order])


class AskingBook(Book):
    """Gives the plots whose level is not above that of their row, in the order of the rows, as the gates allow."""

    def __init__(self, *rows):
        check_number("names", len(rows), 0, MOST_PLOTS)
        levels = {}
        for name, level in rows:
            check_new(name, levels)
            levels[name] = check_number("level", level, 0, MOST_UNITS - 1)
        self._asked = levels
        self.period = 1

    def __call__(self, field, standing, day=0):
        _check_call(self, field, standing, day)
        levels = _levels(field, standing)
        return _allowed(field, [name for name in self._asked if levels[name] <= self._asked[name]])

    def check(self, field):
        """Raise BadName for the first name that no plot has."""
        _check_known(field, list(self._asked))

    def __str__(self):
        return " ".join(["asking", *[f"{name}:{self._asked[name]}" for name in self._asked]])


class RankBook(Book):
    """Gives only the first plot of the order that is not full and that the gates allow, alone."""

    def __init__(self, *order):
        self._order = _checked_order(order)
        self.period = 1

    def __call__(self, field, standing, day=0):
        _check_call(self, field, standing, day)
        for name in _not_full(field, standing, self._order):
            if (name,) in field.ground.gates:
                return (name,)
        return ()

    def check(self, field):
        """Raise BadName for the first name that no plot has."""
        _check_known(field, self._order)

    def __str__(self):
        return " ".join(["rank", *self._order])


class ElseBook(Book):
    """Gives the turn of the first book, or that of the second one where the first gives the empty turn."""

    def __init__(self, first, second):
        # The books are kept in one row: however they were put together, the first turn that is not empty counts.
        self._written = (*_written_books(first), *_written_books(second))
        if len(self._written) > _MOST_BOOKS:
            raise TooMany(_MOST_BOOKS)
        self.period = lcm(first.period, second.period)
        if self.period > _LONGEST_PERIOD:
            raise TooMany(_LONGEST_PERIOD)

    def __call__(self, field, standing, day=0):
        _check_call(self, field, standing, day)
        for book in self._written:
            turn = book(field, standing, day)
            if turn:
                return turn
        return ()

    def check(self, field):
        """Raise the error of the first written book that does not fit."""
        for book in self._written:
            book.check(field)

    def __str__(self):
        return " | ".join([str(book) for book in self._written])

    def written(self):
        """The written books that this one is made of, in order."""
        return self._written


def turn_text(turn):
    """The names joined by a plus; a minus for the empty turn."""
    return "+".join(turn) if turn else "-"


def _written_books(book):
    return book.written() if isinstance(book, ElseBook) else (book,)


def _check_call(book, field, standing, day):
    if not field.fits(standing):
        raise BadStanding(standing)
    check_day(day)
    book.check(field)


def _checked_order(order):
    check_number("names", len(order), 0, MOST_PLOTS)
    return check_different(order)


def _check_known(field, names):
    for name in names:
        field.ground.place_of(name)


def _levels(field, standing):
    return {name: level for name, level in zip(field.ground.names, standing.levels)}


def _not_full(field, standing, names):
    """Those of the names whose plots are not full, in the same order."""
    full = [plot.name for plot, level in zip(field.ground.plots, standing.levels) if level == plot.hold]
    return [name for name in names if name not in full]


def _allowed(field, wanted):
    """The turn to which each wanted plot is added if the gates allow the turn with it."""
    turn = []
    for name in wanted:
        if [*turn, name] in field.ground.gates:
            turn.append(name)
    return field.ground.turn_of(turn)
