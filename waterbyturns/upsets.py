"""Sets of standings that contain, with each standing, every fuller one."""

from waterbyturns.errors import BadStanding
from waterbyturns.field import Standing
from waterbyturns.words import MOST_MOODS, greater

# A part of a standing is at most 8, so it leaves the highest of its five bits free.
_PART = 32
_FREE_BIT = 16


class UpSet:
    """The standings that are above one of a list."""

    def __init__(self, standings):
        table = {code_of(standing): standing for standing in standings}
        for standing in standings:
            if len(standing.levels) != len(standings[0].levels):
                raise BadStanding(standing)
        self._width = len(standings[0].levels) if standings else 0
        self._bits = free_bits(self._width)
        # The codes ascend as the standings do.
        codes = sorted([int(code) for code in table])
        self._codes = _least_codes(codes, self._bits)
        self.least = tuple([table[code] for code in self._codes])

    def __contains__(self, x):
        if len(x.levels) != self._width:
            return False
        return is_above_some(code_of(x), self._codes, self._bits)

    def __le__(self, other):
        if not isinstance(other, UpSet):
            return NotImplemented
        return all([standing in other for standing in self.least])

    def __eq__(self, other):
        return isinstance(other, UpSet) and self.least == other.least

    def __or__(self, other):
        if not isinstance(other, UpSet):
            return NotImplemented
        return UpSet([*self.least, *other.least])

    def __and__(self, other):
        if not isinstance(other, UpSet):
            return NotImplemented
        return UpSet([_joined(one, two) for one in self.least for two in other.least if one.mood == two.mood])

    def __len__(self):
        return len(self.least)

    def count_in(self, field):
        """The number of standings of the field that are in the set."""
        return len([standing for standing in field.standings() if standing in self])


def code_of(standing):
    """The standing as one number, so that two standings can be compared at once in all parts."""
    code = standing.mood
    for units in (*standing.levels, standing.tank):
        code = code * _PART + units
    # The mood stands there a second time, reversed: then "no part less" means equal moods.
    return code * _PART + MOST_MOODS - standing.mood


def free_bits(width):
    """The free bits of all parts of a code: both moods, the levels and the tank."""
    bits = 0
    for _ in range(width + 3):
        bits = bits * _PART + _FREE_BIT
    return bits


def is_above_some(code, codes, bits):
    """Whether one of the codes is not greater in any part."""
    topped = code | bits
    for low in codes:
        # Only a part in which low is greater takes away its own free bit, and never more than that.
        if (topped - low) & bits == bits:
            return True
    return False


def _least_codes(codes, bits):
    """The codes, given in ascending order, that are above no other one."""
    kept = []
    for code in codes:
        if not is_above_some(code, kept, bits):
            kept.append(code)
    return tuple(kept)


def _joined(one, two):
    """The least standing above both."""
    levels = [greater(mine, its) for mine, its in zip(one.levels, two.levels)]
    return Standing(levels, greater(one.tank, two.tank), one.mood)
