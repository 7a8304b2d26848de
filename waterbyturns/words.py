"""Names and numbers, and the limits that several modules share."""

from waterbyturns.errors import BadName, BadNumber

MOST_PLOTS = 4
MOST_UNITS = 8
MOST_MOODS = 4

_LONGEST_NAME = 8
_LONGEST_NUMBER = 4
_DIGITS = "0123456789"


def is_name(text):
    """Whether the value is a string of 1 to 8 letters from a to z."""
    if not isinstance(text, str) or not 1 <= len(text) <= _LONGEST_NAME:
        return False
    return all(["a" <= letter <= "z" for letter in text])


def check_name(text):
    """The text itself; BadName if it is no name."""
    if not is_name(text):
        raise BadName(text)
    return text


def check_new(name, earlier):
    """The name itself; BadName if it is no name or one of the earlier ones."""
    if check_name(name) in earlier:
        raise BadName(name)
    return name


def check_different(names):
    """The names as a tuple; BadName for the first that is no name or was given before."""
    checked = []
    for name in names:
        checked.append(check_new(name, checked))
    return tuple(checked)


def check_number(what, value, low, high):
    """The value itself; BadNumber if it is no integer from low to high."""
    # True and False are integers for Python, but never here.
    if isinstance(value, bool) or not isinstance(value, int):
        raise BadNumber(what, value)
    if value < low or value > high:
        raise BadNumber(what, value)
    return value


def check_day(day):
    """The day number itself; BadNumber if it is no integer from 0 on."""
    # A day number has no greatest value, so it is its own limit.
    return check_number("day", day, 0, day)


def is_place(value, count):
    """Whether the value is an integer from 0 to count - 1."""
    return isinstance(value, int) and not isinstance(value, bool) and 0 <= value < count


def check_units(what, values):
    """The values as a tuple; BadNumber for the first that is no integer from 0 to 8."""
    return tuple([check_number(what, value, 0, MOST_UNITS) for value in values])


def lesser(one, two):
    """The lesser of two numbers."""
    return one if one < two else two


def greater(one, two):
    """The greater of two numbers."""
    return one if one > two else two


def read_number(text):
    """The number that the text writes with one to four digits, without a leading zero."""
    if not is_number(text):
        raise BadNumber("number", text)
    return int(text)


def is_number(text):
    """Whether the text is one to four digits without a leading zero, except in "0" itself."""
    if not isinstance(text, str) or not 1 <= len(text) <= _LONGEST_NUMBER:
        return False
    if not all([letter in _DIGITS for letter in text]):
        return False
    return text == "0" or text[0] != "0"
