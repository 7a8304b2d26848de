"""Standings, and fields: a ground together with a weather."""

from waterbyturns.errors import BadStanding, DriedOut, TooMany
from waterbyturns.words import MOST_MOODS, MOST_PLOTS, MOST_UNITS, check_number, check_units, lesser

_MOST_STANDINGS = 6000


class Standing:
    """The state at the beginning of a day: the levels of the plots, the units in the tank, and the mood."""

    def __init__(self, levels, tank, mood):
        check_number("plots", len(levels), 1, MOST_PLOTS)
        self.levels = check_units("level", levels)
        self.tank = check_number("tank", tank, 0, MOST_UNITS)
        self.mood = check_number("mood", mood, 0, MOST_MOODS - 1)

    def __eq__(self, other):
        return (isinstance(other, Standing) and self.mood == other.mood
                and self.levels == other.levels and self.tank == other.tank)

    def __le__(self, other):
        """Whether the other standing is at least as full as this one."""
        if not isinstance(other, Standing):
            return NotImplemented
        if self.mood != other.mood or len(self.levels) != len(other.levels) or self.tank > other.tank:
            return False
        return all([mine <= its for mine, its in zip(self.levels, other.levels)])

    def __str__(self):
        levels = [str(level) for level in self.levels]
        return " ".join([f"{self.mood}:", *levels, "/", str(self.tank)])


class Field:
    """A ground together with a weather."""

    def __init__(self, ground, weather):
        plots = len(ground.plots)
        check_number("plots", weather.width, plots, plots)
        # The ground is copied, because it may be resized later.
        self.ground = ground.with_tank(ground.capacity)
        self.weather = weather
        holds = [plot.hold for plot in ground.plots]
        self._limits = (*holds, ground.capacity)
        self._size = _count_standings(self._limits, len(weather))
        if self._size > _MOST_STANDINGS:
            raise TooMany(_MOST_STANDINGS)

    @property
    def size(self):
        """The number of standings."""
        return self._size

    def __eq__(self, other):
        return isinstance(other, Field) and self.ground == other.ground and self.weather == other.weather

    def fits(self, standing):
        """Whether the standing is one of the field."""
        parts = _parts(standing)
        if len(parts) != len(self._limits) or standing.mood >= len(self.weather):
            return False
        return all([units <= limit for units, limit in zip(parts, self._limits)])

    def number(self, standing):
        """The place of the standing in ascending order, from 0."""
        self._check_fits(standing)
        number = standing.mood
        for units, limit in zip(_parts(standing), self._limits):
            number = number * (limit + 1) + units
        return number

    def standing_at(self, number):
        """The standing with this number."""
        rest = check_number("number", number, 0, self._size - 1)
        parts = []
        for limit in self._limits[::-1]:
            rest, units = divmod(rest, limit + 1)
            parts.append(units)
        return _standing_of(parts[::-1], rest)

    def watered(self, standing, turn):
        """The standing after the water alone."""
        self._check_fits(standing)
        names = self.ground.turn_of(turn)
        return _standing_of(_served(self.ground.plots, names, _parts(standing)), standing.mood)

    def after(self, standing, turn, day):
        """The standing after the whole day."""
        return self._gone(standing, turn, day, 0)

    def spill(self, standing, turn, day):
        """The number of units that are spilled on the day."""
        parts, chosen = self._checked_day(standing, turn, day, 0)
        amounts = _amounts(parts, chosen)
        return sum(amounts) - sum(self._kept(amounts))

    def moves(self, standing, turn):
        """For each day of the mood the standing after it, or None if it dries out a plot."""
        parts = _parts(self.watered(standing, turn))
        return [self._settled(parts, day) if _dry_place(parts, day) is None else None
                for day in self.weather[standing.mood]]

    def run(self, standing, turns, days):
        """Yield the standing after each day, as long as there are a turn and a day."""
        present = standing
        for place, (turn, day) in enumerate(zip(turns, days)):
            present = self._gone(present, turn, day, place)
            yield present

    def standings(self):
        """Yield all standings in ascending order."""
        for number in range(self._size):
            yield self.standing_at(number)

    def beside(self, standing, units):
        """The standings of the field with so many units more in one plot (the plots in order) or in the tank."""
        self._check_fits(standing)
        parts = _parts(standing)
        found = []
        for place, limit in enumerate(self._limits):
            changed = parts[place] + units
            if 0 <= changed <= limit:
                found.append(_standing_of([*parts[:place], changed, *parts[place + 1:]], standing.mood))
        return found

    def arrivals(self):
        """For each standing and each allowed turn a list with one entry for each day of the mood: the number of the
        standing after it, or None if it dries out a plot."""
        turns = self.ground.turns()
        rows = _all_parts(self._limits)
        places = {row: place for place, row in enumerate(rows)}
        wet = [[places[_served(self.ground.plots, turn, row)] for turn in turns] for row in rows]
        found = []
        for days in self.weather.moods:
            # What comes after the water is the same for all turns that water alike, so it is found only once.
            after = [[self._number_after(row, day, places) for day in days] for row in rows]
            found.extend([[after[place] for place in chosen] for chosen in wet])
        return found

    def _number_after(self, parts, day, places):
        if _dry_place(parts, day) is not None:
            return None
        return day.mood * len(places) + places[tuple(self._kept(_amounts(parts, day)))]

    def _check_fits(self, standing):
        if not self.fits(standing):
            raise BadStanding(standing)

    def _gone(self, standing, turn, day, place):
        """The standing after the day; the place is the one that DriedOut tells."""
        parts, chosen = self._checked_day(standing, turn, day, place)
        return self._settled(parts, chosen)

    def _checked_day(self, standing, turn, day, place):
        """The parts after the water, and the day at its place in the mood; DriedOut if it dries out a plot."""
        parts = _parts(self.watered(standing, turn))
        days = self.weather[standing.mood]
        chosen = days[check_number("day", day, 0, len(days) - 1)]
        dry = _dry_place(parts, chosen)
        if dry is not None:
            raise DriedOut(self.ground.names[dry], place)
        return parts, chosen

    def _settled(self, parts, day):
        return _standing_of(self._kept(_amounts(parts, day)), day.mood)

    def _kept(self, amounts):
        return [lesser(units, limit) for units, limit in zip(amounts, self._limits)]


def _count_standings(limits, moods):
    count = moods
    for limit in limits:
        count *= limit + 1
    return count


def _parts(standing):
    """The levels and the tank, in the order in which they count."""
    return (*standing.levels, standing.tank)


def _standing_of(parts, mood):
    return Standing(parts[:-1], parts[-1], mood)


def _all_parts(limits):
    """The parts of all standings of one mood, in ascending order."""
    rows = [()]
    for limit in limits:
        rows = [(*row, units) for row in rows for units in range(limit + 1)]
    return rows


def _served(plots, turn, parts):
    """The parts after the plots of the turn have taken their water, one after the other."""
    left = parts[-1]
    levels = []
    for plot, level in zip(plots, parts):
        units = lesser(lesser(plot.drink, plot.hold - level), left) if plot.name in turn else 0
        levels.append(level + units)
        left -= units
    return (*levels, left)


def _dry_place(parts, day):
    """The place of the first plot that the day dries out, or None."""
    for place, (level, dry) in enumerate(zip(parts, day.dry)):
        if level < dry:
            return place
    return None


def _amounts(parts, day):
    """What the plots and the tank would have after the day if nothing were spilled."""
    levels = [level - dry + rain for level, dry, rain in zip(parts, day.dry, day.rain)]
    return [*levels, parts[-1] + day.fill]
