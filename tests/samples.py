"""Fields that several test files use, and what the points say of them, word by word."""

import itertools
import random

from waterbyturns.books import AskingBook, Book, DaysBook, DriestBook, RankBook
from waterbyturns.field import Field, Standing
from waterbyturns.ground import Gates, Ground, Plot
from waterbyturns.weather import Day, Weather

NAMES = ["a", "b", "c", "d"]


def field_of(plots, groups, tank, *moods):
    """A field: plots as (name, hold, drink), days as (dry, rain, fill, mood)."""
    ground = Ground([Plot(*plot) for plot in plots], Gates(*groups), tank)
    return Field(ground, Weather(*[[Day(*day) for day in days] for days in moods]))


def standing_of(text):
    """The standing with this text."""
    mood, rest = text.split(":")
    levels, tank = rest.split("/")
    return Standing([int(level) for level in levels.split()], int(tank), int(mood))


def texts(standings):
    return [str(standing) for standing in standings]


def order(standing):
    """The order of point 21."""
    return standing.mood, standing.levels, standing.tank


def some_field(pick):
    """A small field, as the random source picks it."""
    width = pick.choice([1, 2, 2, 2, 3])
    most = {1: 5, 2: 3, 3: 2}[width]
    names = pick.sample(NAMES, width)
    plots = [(name, pick.randint(1, most), pick.randint(1, 3)) for name in names]
    groups = [pick.sample(names, pick.randint(1, width)) for _ in range(pick.randint(1, 3))]
    moods = pick.randint(1, 2)
    heavy = pick.choice([0, 1, 1, 2])
    weather = [[([pick.randint(0, 1 + heavy // 2) for _ in names], [pick.randint(0, 2 - heavy // 2) for _ in names],
                 pick.randint(0, 3), pick.randrange(moods)) for _ in range(pick.randint(1, 3))]
               for _ in range(moods)]
    return field_of(plots, groups, pick.randint(0, 3), *weather)


def some_fields(count, seed=1):
    pick = random.Random(seed)
    return [some_field(pick) for _ in range(count)]


def ranks_by_words(field):
    """Points 31 and 32: for the number of each standing its rank, found step by step from the standings alone."""
    rows = list(field.standings())
    moves = {str(row): [field.moves(row, turn) for turn in field.ground.turns()] for row in rows}
    lost = {}
    for days in itertools.count(1):
        fresh = [text for text in moves if text not in lost and
                 all(any(arrival is None or str(arrival) in lost for arrival in arrivals) for arrivals in moves[text])]
        if not fresh:
            return {str(row): lost.get(str(row), 0) for row in rows}
        lost.update({text: days for text in fresh})


class OddBook(Book):
    """A book that this program did not make: it gives one turn on the odd days."""

    def __init__(self, period=2):
        self.period = period

    def __call__(self, field, standing, day=0):
        return ("a",) if day % 2 else ()

    def check(self, field):
        field.ground.place_of("a")

    def __str__(self):
        return "odd"


def some_book(pick, field):
    """A book that fits the field, as the random source picks it."""
    names, turns = field.ground.names, field.ground.turns()
    order = pick.sample(names, pick.randint(1, len(names)))
    kind = pick.randrange(5)
    if kind == 0:
        return DriestBook(*order)
    if kind == 1:
        return RankBook(*order)
    if kind == 2:
        return AskingBook(*[(name, pick.randint(0, 3)) for name in order])
    days = DaysBook(*[pick.choice(turns) for _ in range(pick.randint(1, 4))])
    return days if kind == 3 else days | AskingBook(*[(name, pick.randint(0, 2)) for name in order])


# One plot that must be watered each second day; all standings but the driest are safe.
EASY = field_of([("a", 3, 2)], [["a"]], 2, [([1], [0], 1, 0)])
# Two plots, one turn for each, dry days and wet days; some standings are safe.
TIGHT = field_of([("a", 3, 2), ("b", 3, 2)], [["a"], ["b"]], 3,
                 [([1, 1], [0, 0], 2, 0), ([1, 0], [0, 0], 1, 0)])
# Nothing dries, so all standings are safe.
WET = field_of([("a", 2, 1), ("b", 1, 1)], [["a", "b"]], 1, [([0, 0], [0, 1], 0, 0)])
# Nothing comes, so no standing is safe.
DRY = field_of([("a", 2, 1), ("b", 2, 2)], [["a"], ["b"]], 2, [([1, 1], [0, 0], 0, 1)], [([0, 1], [0, 0], 0, 0)])

# Fields with books for which a fuller plot is worse: it moves the turn away from the plot that needs it.
HARMED = [
    (field_of([("a", 4, 2), ("b", 2, 2)], [["a"], ["b"]], 2, [([1, 1], [0, 0], 2, 0)]),
     AskingBook(("a", 0), ("b", 0))),
    (field_of([("a", 3, 3), ("b", 2, 3)], [["a"], ["b"]], 2, [([1, 1], [0, 0], 2, 0)]),
     AskingBook(("a", 1), ("b", 0))),
    (field_of([("a", 2, 3), ("b", 4, 2)], [["a"], ["b"]], 2, [([1, 0], [0, 1], 2, 1)], [([1, 0], [0, 0], 0, 0)]),
     DriestBook("a", "b")),
    (field_of([("a", 4, 3), ("b", 3, 1)], [["a"], ["b"]], 2, [([0, 1], [0, 0], 1, 0)], [([1, 1], [1, 0], 0, 0)]),
     DriestBook("a", "b")),
]
