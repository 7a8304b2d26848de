"""The errors that the program raises."""


def _shown(value):
    """A value as it stands in a message."""
    if isinstance(value, str):
        return repr(value)
    # Python refuses to write out an integer of thousands of digits.
    if isinstance(value, int) and -10000 < value < 10000:
        return str(value)
    return "another value"


class WaterError(ValueError):
    """The base class of all errors of the program."""


class BadName(WaterError):
    """Something is no name, or no name that can stand there."""

    def __init__(self, name):
        super().__init__(f"bad name: {_shown(name)}")
        self.name = name


class BadNumber(WaterError):
    """A number is out of its range, or something is no number."""

    def __init__(self, what, value):
        super().__init__(f"bad number for {what}: {_shown(value)}")
        self.what = what
        self.value = value


class BadTurn(WaterError):
    """A turn names a plot twice, or the gates do not allow it."""

    def __init__(self, turn):
        super().__init__("the turn names a plot twice or is not allowed")
        self.turn = tuple(turn)


class BadStanding(WaterError):
    """A standing does not fit."""

    def __init__(self, standing):
        super().__init__("the standing does not fit")
        self.standing = standing


class TooMany(WaterError):
    """There are more standings, nodes or the like than the limit."""

    def __init__(self, limit):
        super().__init__(f"more than {_shown(limit)}")
        self.limit = limit


class DriedOut(WaterError):
    """The level of a plot fell below zero."""

    def __init__(self, plot, day):
        super().__init__(f"plot {_shown(plot)} dried out on day {_shown(day)}")
        self.plot = plot
        self.day = day


class NotSafe(WaterError):
    """Not all plots can be kept from a standing."""

    def __init__(self, standing):
        super().__init__("the standing is not safe")
        self.standing = standing


class BadPaper(WaterError):
    """A row of a certificate is wrong."""

    def __init__(self, row, reason):
        super().__init__(f"bad row {_shown(row)}: {_shown(reason)}")
        self.row = row
        self.reason = reason


class Unlike(WaterError):
    """Two objects belong to different fields."""


class NothingFits(WaterError):
    """No standing agrees with what was seen."""

    def __init__(self, day):
        super().__init__(f"no standing is left on day {_shown(day)}")
        self.day = day


class BadText(WaterError):
    """A line of a text has a wrong form."""

    def __init__(self, line):
        super().__init__(f"line {_shown(line)} has a wrong form")
        self.line = line


class NothingToUndo(WaterError):
    """Fewer days have gone than are to be taken back."""


class BadDeed(WaterError):
    """One of several deeds failed."""

    def __init__(self, place):
        super().__init__(f"deed {_shown(place)} failed")
        self.place = place
