"""The least tank, the least rain and the cheapest gates with which a standing is safe, and turns that are missed."""

from waterbyturns.errors import NotSafe, TooMany
from waterbyturns.field import Field
from waterbyturns.ground import Gates, check_group
from waterbyturns.rounds import ranks
from waterbyturns.safe import Safe
from waterbyturns.words import MOST_UNITS, check_number

_MOST_ENTRIES = 5
_HIGHEST_PRICE = 99


def least_tank(ground, weather, start):
    """The least tank size that makes the start safe, or None."""
    for size in range(start.tank, MOST_UNITS + 1):
        if _is_safe(ground.with_tank(size), weather, start):
            return size
    return None


def least_rain(ground, weather, start):
    """The least number of units of rain that make the start safe if each day brings them to each plot; or None."""
    for units in range(MOST_UNITS + 1):
        if _is_safe(ground, weather + units, start):
            return units
    return None


def cheapest_gates(ground, weather, start, menu):
    """The least price of groups of the menu that make the start safe, and all choices with that price; or None."""
    _check_menu(ground, menu)
    choices = _choices(0, len(menu))
    everything = tuple(range(len(menu)))
    if not _opens(ground, weather, start, menu, everything):
        return None
    for price in range(_price(menu, everything)):
        found = [choice for choice in choices
                 if _price(menu, choice) == price and _opens(ground, weather, start, menu, choice)]
        if found:
            return price, found
    return _price(menu, everything), [everything]


def misses(safe, standing, *plots):
    """For how many days the hand can go on without a turn for the plots; None if for ever."""
    field = safe.field
    if not safe.keeps(standing):
        raise NotSafe(standing)
    for plot in plots:
        field.ground.place_of(plot)
    allowed = [not any([name in turn for name in plots]) for turn in field.ground.turns()]
    kept = [safe.keeps(other) for other in field.standings()]
    # A day that leaves the safe standings counts as failing at once: the hand has to be at one after the last day.
    game = [[_option(row, kept) for row, may in zip(rows, allowed) if may] for rows in field.arrivals()]
    rank = ranks(game)[field.number(standing)]
    return rank - 1 if rank > 0 else None


def _is_safe(ground, weather, start):
    return Safe(Field(ground, weather)).keeps(start)


def _check_menu(ground, menu):
    if len(menu) > _MOST_ENTRIES:
        raise TooMany(_MOST_ENTRIES)
    for group, price in menu:
        check_group(group)
        for name in group:
            ground.place_of(name)
        check_number("price", price, 1, _HIGHEST_PRICE)


def _choices(first, count):
    """All choices of places from the first to count - 1, in order; a choice comes before those that go on with it."""
    found = [()]
    for place in range(first, count):
        found.extend([(place, *rest) for rest in _choices(place + 1, count)])
    return found


def _price(menu, choice):
    return sum([menu[place][1] for place in choice])


def _opens(ground, weather, start, menu, choice):
    """Whether gates with exactly the chosen groups make the start safe."""
    groups = [menu[place][0] for place in choice]
    return _is_safe(ground.with_gates(Gates(*groups)), weather, start)


def _option(arrivals, kept):
    for arrival in arrivals:
        if arrival is None or not kept[arrival]:
            return None
    return arrivals
