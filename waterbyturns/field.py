"""Standings, and fields: a ground together with a weather."""

from waterbyturns.errors import BadStanding, DriedOut, TooMany
from waterbyturns.words import MOST_MOODS, MOST_PLOTS, MOST_UNITS, check_number, check_units, lesser

_MOST_STANDINGS = 6000


class Standing:
    """The state at the beginning of a day: the levels of the plots, the units in the tank, and the mood."""

    def __init__(self, levels, tank, mood):
        check_number("plots", len(levels), 1, MOST_PLOTS)
        self.levels = check_units("level", levels)
        self.tank = check_number("tank", tank, 0, MOST_UNITS)
        self.mood = check_number("mood", mood, 0, MOST_MOODS - 1)

    def __eq__(self, other):
        return (isinstance(other, Standing) and self.mood == other.mood
                and self.levels == other.levels and self.tank == other.tank)

    def __le__(self, other):
        """Whether the other standing is at least as full as this one."""
        if not isinstance(other, Standing):
            return NotImplemented
        if self.mood != other.mood or len(self.levels) != len(other.levels) or self.tank > other.tank:
            return False
        return all([mine <= its for mine, its in zip(self.levels, other.levels)])

    def __str__(self):
        levels = [str(level) for level in self.levels]
        return " ".join([f"{self.mood}:", *levels, "/", str(self.tank)])


class Field:
    """A ground together with a weather."""

    def __init__(self, ground, weather):
        plots = len(ground.plots)
        check_number("plots", weather.width, plots, plots)
        # The ground is copied, because it may be resized later.
        self.ground = ground.with_tank(ground.capacity)
        self.weather = weather
        holds = [plot.hold for plot in ground.plots]
        self._limits = (*holds, ground.capacity)
        self._size = _count_standings(self._limits, len(weather))
        if self._size > _MOST_STANDINGS:
            raise TooMany(_MOST_STANDINGS)

    @property
    def size(self):
        """The number of standings."""
        return self._size

    def __eq__(self, other):
        return isinstance(other, Field) and self.ground == other.ground and self.weather == other.weather

    def fits(self, standing):
        """Whether the standing is one of the field."""
        parts = _parts(standing)
        if len(parts) != len(self._limits) or standing.mood >= len(self.weather):
            return False
        return all([units <= limit for units, limit in zip(parts, self._limits)])

    def number(self, standing):
        """The place of the standing in ascending order, from 0."""
        self._check_fits(standing)
        number = standing.mood
        for units, limit in zip(_parts(standing), self._limits):
            number = number * (limit + 1) + units
        return number

    def standing_at(self, number):
        """The standing with this number."""
        rest = check_number("number", number, 0, self._size - 1)
        parts = []
        for limit in self._limits[::-1]:
            rest, units = divmod(rest, limit + 1)
            parts.append(units)
        return _standing_of(parts[::-1], rest)

    def watered(self, standing, turn):
        """The standing after the water alone."""
        self._check_fits(standing)
        names = self.ground.turn_of(turn)
        left = standing.tank
        levels = []
        for plot, level in zip(self.ground.plots, standing.levels):
            units = lesser(lesser(plot.drink, plot.hold - level), left) if plot.name in names else 0
            levels.append(level + units)
            left -= units
        return Standing(levels, left, standing.mood)

    def after(self, standing, turn, day):
        """The standing after the whole day."""
        return self._gone(standing, turn, day, 0)

    def spill(self, standing, turn, day):
        """The number of units that are spilled on the day."""
        wet = self.watered(standing, turn)
        amounts = _amounts(wet, self._checked_day(wet, day, 0))
        return sum(amounts) - sum(self._kept(amounts))

    def moves(self, standing, turn):
        """For each day of the mood the standing after it, or None if it dries out a plot."""
        wet = self.watered(standing, turn)
        return [self._settled(wet, day) if _dry_place(wet, day) is None else None
                for day in self.weather[wet.mood]]

    def run(self, standing, turns, days):
        """Yield the standing after each day, as long as there are a turn and a day."""
        present = standing
        for place, (turn, day) in enumerate(zip(turns, days)):
            present = self._gone(present, turn, day, place)
            yield present

    def standings(self):
        """Yield all standings in ascending order."""
        for number in range(self._size):
            yield self.standing_at(number)

    def _check_fits(self, standing):
        if not self.fits(standing):
            raise BadStanding(standing)

    def _gone(self, standing, turn, day, place):
        """The standing after the day; the place is the one that DriedOut tells."""
        wet = self.watered(standing, turn)
        return self._settled(wet, self._checked_day(wet, day, place))

    def _checked_day(self, wet, day, place):
        """The day at its place in the mood; DriedOut if it dries out a plot."""
        days = self.weather[wet.mood]
        chosen = days[check_number("day", day, 0, len(days) - 1)]
        dry = _dry_place(wet, chosen)
        if dry is not None:
            raise DriedOut(self.ground.names[dry], place)
        return chosen

    def _settled(self, wet, day):
        return _standing_of(self._kept(_amounts(wet, day)), day.mood)

    def _kept(self, amounts):
        return [lesser(units, limit) for units, limit in zip(amounts, self._limits)]


def _count_standings(limits, moods):
    count = moods
    for limit in limits:
        count *= limit + 1
    return count


def _parts(standing):
    """The levels and the tank, in the order in which they count."""
    return (*standing.levels, standing.tank)


def _standing_of(parts, mood):
    return Standing(parts[:-1], parts[-1], mood)


def _dry_place(wet, day):
    """The place of the first plot that the day dries out, or None."""
    for place, (level, dry) in enumerate(zip(wet.levels, day.dry)):
        if level < dry:
            return place
    return None


def _amounts(wet, day):
    """What the plots and the tank would have after the day if nothing were spilled."""
    levels = [level - dry + rain for level, dry, rain in zip(wet.levels, day.dry, day.rain)]
    return [*levels, wet.tank + day.fill]
