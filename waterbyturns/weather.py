"""Days, and weathers made of them."""

from waterbyturns.words import MOST_MOODS, MOST_PLOTS, MOST_UNITS, check_number, check_units, lesser

_MOST_DAYS = 6


class Day:
    """What one day brings to each plot and to the tank, and the mood of the next day."""

    def __init__(self, dry, rain, fill, mood):
        width = check_number("plots", len(dry), 1, MOST_PLOTS)
        self.dry = check_units("dry", dry)
        check_number("plots", len(rain), width, width)
        self.rain = check_units("rain", rain)
        self.fill = check_number("fill", fill, 0, MOST_UNITS)
        self.mood = check_number("mood", mood, 0, MOST_MOODS - 1)

    def __eq__(self, other):
        return (isinstance(other, Day) and self.dry == other.dry and self.rain == other.rain
                and self.fill == other.fill and self.mood == other.mood)

    def __le__(self, other):
        """Whether this day is at least as harsh as the other one."""
        if not isinstance(other, Day):
            return NotImplemented
        if len(self.dry) != len(other.dry) or self.mood != other.mood or self.fill > other.fill:
            return False
        drier = all([mine >= its for mine, its in zip(self.dry, other.dry)])
        return drier and all([mine <= its for mine, its in zip(self.rain, other.rain)])

    def __add__(self, other):
        units = check_number("units", other, 0, MOST_UNITS)
        rain = [lesser(wet + units, MOST_UNITS) for wet in self.rain]
        return Day(self.dry, rain, self.fill, self.mood)


class Weather:
    """One to four moods, each with the days that it allows."""

    def __init__(self, *moods):
        check_number("moods", len(moods), 1, MOST_MOODS)
        _check_days(moods)
        self.moods = tuple([tuple(days) for days in moods])
        self.width = len(self.moods[0][0].dry)

    def __eq__(self, other):
        return isinstance(other, Weather) and self.moods == other.moods

    def __len__(self):
        return len(self.moods)

    def __getitem__(self, at):
        return self.moods[check_number("mood", at, 0, len(self.moods) - 1)]

    def __iter__(self):
        raise TypeError("iterate over the attribute moods")

    def __add__(self, other):
        moods = [[day + other for day in days] for days in self.moods]
        return Weather(*moods)

    def __radd__(self, other):
        return self + other

    def lean(self):
        """The weather without the days that never matter to a careful hand."""
        moods = [_lean_days(days) for days in self.moods]
        return Weather(*moods)

    @staticmethod
    def steady(dry, rain, fill):
        """A weather that brings the same day again and again."""
        return Weather([Day(dry, rain, fill, 0)])

    @staticmethod
    def seasons(*rows):
        """A weather with a mood for each row of (dry, rain, fill); the seasons follow each other in a ring."""
        check_number("moods", len(rows), 1, MOST_MOODS)
        moods = []
        for mood, row in enumerate(rows):
            later = (mood + 1) % len(rows)
            moods.append([Day(dry, rain, fill, later) for dry, rain, fill in row])
        return Weather(*moods)


def _check_days(moods):
    for days in moods:
        check_number("days", len(days), 1, _MOST_DAYS)
        width = len(moods[0][0].dry)
        for day in days:
            check_number("plots", len(day.dry), width, width)
            check_number("mood", day.mood, 0, len(moods) - 1)


def _lean_days(days):
    return [day for place, day in enumerate(days) if not _never_matters(days, place)]


def _never_matters(days, place):
    """Whether another day is harsher, or an equal one stands earlier."""
    day = days[place]
    for at, other in enumerate(days):
        if at != place and other <= day and (at < place or not day <= other):
            return True
    return False
