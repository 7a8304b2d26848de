"""What several test files use."""

from waterbyturns.errors import WaterError

# None of these is an integer, a name or a short text of digits.
OTHER_VALUES = [None, True, False, 1.0, "1", b"1", [1], (1,), {1: 1}]


def error_of(call, *values):
    """The error of the program that the call raises: its class and its attributes."""
    try:
        call(*values)
    except WaterError as error:
        return type(error), vars(error)
    return None


def raised(kind, **attributes):
    """What error_of returns for an error of this class with these attributes."""
    return kind, attributes
