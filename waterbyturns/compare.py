"""Books beside what is safe, and books beside each other."""

from math import lcm

from waterbyturns.errors import Unlike


def faults(safe, judged):
    """All pairs of a place and a safe standing at which the turn of the book is not good."""
    _check_fields(safe, judged)
    good = [(number, standing, safe.turns(standing)) for number, standing in enumerate(safe.field.standings())]
    return [(place, standing) for place in range(judged.book.period) for number, standing, turns in good
            if turns and judged.turn_at(number, place) not in turns]


def right(safe, judged):
    """Whether the book gives a good turn at each safe standing at each place."""
    return faults(safe, judged) == []


def never_worse(first, second):
    """Whether the second book keeps, from day 0, no standing that the first one loses."""
    return better_at(first, second) is None


def better_at(first, second):
    """The first standing that the second book keeps from day 0 and the first one does not, or None."""
    _check_fields(first, second)
    for standing in second.kept():
        if not first.keeps(standing):
            return standing
    return None


def difference(first, second, standing):
    """The days of the first of the shortest runs after which the books give different turns; None if there is none."""
    _check_fields(first, second)
    # The number is asked for first, because it raises the error of a standing that does not fit.
    return _days_apart(first, second, [first.field.number(standing)])


def alike(first, second):
    """Whether the books never differ, from whatever standing."""
    _check_fields(first, second)
    return _days_apart(first, second, list(range(first.field.size))) is None


def _check_fields(one, two):
    if one.field != two.field:
        raise Unlike()


def _days_apart(first, second, numbers):
    """The days of a run from one of the standings to one at which the books differ: the first of the shortest."""
    ring = lcm(first.book.period, second.book.period)
    # Each row has the place in the ring, the number of the standing, and the row and the day from which it comes.
    rows = [(0, number, None, None) for number in numbers]
    found = {(0, number): True for number in numbers}
    done = 0
    while done < len(rows):
        place, number, _, _ = rows[done]
        if first.turn_at(number, place) != second.turn_at(number, place):
            return _days_to(rows, done)
        later = (place + 1) % ring
        # Days are tried in order, so each standing is found first by the first of the shortest runs to it.
        for day, arrival in enumerate(first.arrivals_at(number, place)):
            if arrival is not None and (later, arrival) not in found:
                found[(later, arrival)] = True
                rows.append((later, arrival, done, day))
        done += 1
    return None


def _days_to(rows, last):
    """The days that lead to the row, from the start on."""
    days = []
    at = last
    while rows[at][2] is not None:
        days.append(rows[at][3])
        at = rows[at][2]
    return days[::-1]
