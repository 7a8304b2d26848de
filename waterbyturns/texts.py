"""Texts of fields, standings and books, written and read back."""

from waterbyturns.books import AskingBook, DaysBook, DriestBook, RankBook
from waterbyturns.errors import BadText
from waterbyturns.field import Field, Standing
from waterbyturns.ground import Gates, Ground, Plot
from waterbyturns.weather import Day, Weather
from waterbyturns.words import is_number, read_number

# Which lines may come after a line that begins with a word; after the last one no line is needed.
_FOLLOWING = {
    "": ("plot",),
    "plot": ("plot", "gate", "tank"),
    "gate": ("gate", "tank"),
    "tank": ("mood",),
    "mood": ("day",),
    "day": ("day", "mood"),
}
_LAST = "day"


def write_field(field):
    """The text of the field."""
    lines = [f"plot {plot.name} {plot.hold} {plot.drink}" for plot in field.ground.plots]
    lines.extend([" ".join(["gate", *group]) for group in field.ground.gates.groups])
    lines.append(f"tank {field.ground.capacity}")
    for days in field.weather.moods:
        lines.append("mood")
        lines.extend([_day_line(day) for day in days])
    return "".join([f"{line}\n" for line in lines])


def read_field(text):
    """The field that the text describes; BadText for the first line that has a wrong form."""
    rows = _rows_of(text)
    plots = [Plot(row[1], read_number(row[2]), read_number(row[3])) for row in rows if row[0] == "plot"]
    groups = [row[1:] for row in rows if row[0] == "gate"]
    gates = Gates(*groups)
    tanks = [read_number(row[1]) for row in rows if row[0] == "tank"]
    ground = Ground(plots, gates, tanks[0])
    moods = _moods_of(rows)
    return Field(ground, Weather(*moods))


def read_standing(text):
    """The standing with this text."""
    words = text.split(" ")
    if len(words) < 4 or not words[0].endswith(":") or words[-2] != "/":
        raise BadText(1)
    parts = [words[0][:-1], *words[1:-2], words[-1]]
    if not _are_numbers(parts):
        raise BadText(1)
    mood, *levels, tank = [read_number(part) for part in parts]
    return Standing(levels, tank, mood)


def read_book(text):
    """The book with this text."""
    books = [_book_of(part) for part in text.split(" | ")]
    book = books[0]
    for other in books[1:]:
        book = book | other
    return book


def read_turn(word):
    """The names of a turn that is written as they are joined by a plus, or as a minus."""
    return () if word == "-" else tuple(word.split("+"))


def _day_line(day):
    parts = " | ".join([_units_text(day.dry), _units_text(day.rain), str(day.fill), str(day.mood)])
    return f"day {parts}"


def _units_text(units):
    return " ".join([str(unit) for unit in units])


def _rows_of(text):
    """The words of each line; BadText if the lines do not have the form of a field."""
    lines = text.split("\n")
    before = ""
    rows = []
    for place, line in enumerate(lines[:-1]):
        words = line.split(" ")
        if words[0] not in _FOLLOWING[before] or not _has_form(words):
            raise BadText(place + 1)
        before = words[0]
        rows.append(words)
    # Behind the last newline there is nothing, or a line that lacks its own.
    if lines[-1] != "" or before != _LAST:
        raise BadText(len(lines))
    return rows


def _has_form(words):
    """Whether the words have the form of a line that begins with the first of them."""
    kind, *rest = words
    if "" in rest:
        return False
    if kind == "plot":
        return len(rest) == 3 and _are_numbers(rest[1:])
    if kind == "gate":
        return len(rest) > 0
    if kind == "tank":
        return len(rest) == 1 and _are_numbers(rest)
    if kind == "mood":
        return len(rest) == 0
    parts = _day_parts(words)
    return len(parts) == 4 and len(parts[2]) == 1 and len(parts[3]) == 1 and all([_are_numbers(part) for part in parts])


def _are_numbers(words):
    """Whether there are words and each one is a number."""
    return len(words) > 0 and all([is_number(word) for word in words])


def _day_parts(words):
    """The words behind the first one, divided at each bar."""
    parts = [[]]
    for word in words[1:]:
        if word == "|":
            parts.append([])
        else:
            parts[-1].append(word)
    return parts


def _moods_of(rows):
    """For each mood its days."""
    moods = []
    for row in rows:
        if row[0] == "mood":
            moods.append([])
        if row[0] == "day":
            moods[-1].append(_day_of(row))
    return moods


def _day_of(words):
    dry, rain, fill, mood = [[read_number(word) for word in part] for part in _day_parts(words)]
    return Day(dry, rain, fill[0], mood[0])


def _book_of(part):
    """The written book with this text."""
    words = part.split(" ")
    kind, *rest = words
    if "" in words:
        raise BadText(1)
    if kind == "days" and rest:
        turns = [read_turn(word) for word in rest]
        return DaysBook(*turns)
    if kind == "driest":
        return DriestBook(*rest)
    if kind == "rank":
        return RankBook(*rest)
    if kind == "asking":
        rows = [_asking_row(word) for word in rest]
        return AskingBook(*rows)
    raise BadText(1)


def _asking_row(word):
    name, _, level = word.partition(":")
    if not is_number(level):
        raise BadText(1)
    return name, read_number(level)
