"""Certificates for safe and for lost standings, and checks of what anyone wrote."""

from waterbyturns.errors import BadName, BadPaper, BadTurn
from waterbyturns.upsets import UpSet
from waterbyturns.words import is_place


def safe_paper(safe):
    """The safe certificate with a row for each least safe standing."""
    return [(standing, safe.first_turn(standing)) for standing in safe.least.least]


def check_safe(field, rows):
    """The UpSet of the standings of the rows; BadPaper for the first bad row."""
    # No standing of the field is above one that does not fit, so such rows can be left out here.
    kept = UpSet([standing for standing, _ in rows if field.fits(standing)])
    for place, (standing, turn) in enumerate(rows):
        _check_safe_row(field, kept, place, standing, turn)
    return kept


def lost_paper(safe):
    """The lost certificate that covers all lost standings, rank after rank."""
    tops = _lost_tops(safe)
    first = _first_above(safe.field, tops)
    return [(standing, _answers(safe, standing, first)) for standing in tops]


def check_lost(field, rows):
    """The days of each row; BadPaper for the first bad row."""
    days = []
    for place, (standing, answers) in enumerate(rows):
        _check_lost_row(field, rows, place)
        days.append(1 + max([int(days[row]) for _, row in answers if row is not None], default=0))
    return days


def covers(field, safe_rows, lost_rows):
    """Whether each standing is above a row of the safe certificate, or at or below one of the lost one."""
    kept = check_safe(field, safe_rows)
    check_lost(field, lost_rows)
    lost = _first_above(field, [standing for standing, _ in lost_rows])
    return all([standing in kept or number in lost for number, standing in enumerate(field.standings())])


def _check_safe_row(field, kept, place, standing, turn):
    if not field.fits(standing):
        raise BadPaper(place, "standing")
    for arrival in _moves(field, place, standing, turn):
        if arrival is None:
            raise BadPaper(place, "dries")
        if arrival not in kept:
            raise BadPaper(place, "leaves")


def _moves(field, place, standing, turn):
    try:
        return field.moves(standing, turn)
    except (BadName, BadTurn) as e:
        raise BadPaper(place, "turn") from e


def _check_lost_row(field, rows, place):
    standing, answers = rows[place]
    if not field.fits(standing):
        raise BadPaper(place, "standing")
    turns = field.ground.turns()
    if len(answers) != len(turns):
        raise BadPaper(place, "answers")
    for turn, (day, row) in zip(turns, answers):
        reason = _fault(field.moves(standing, turn), rows, place, day, row)
        if reason is not None:
            raise BadPaper(place, reason)


def _fault(arrivals, rows, place, day, row):
    """What is wrong with the answer (day, row) in the row at this place, or None."""
    if not is_place(day, len(arrivals)):
        return "day"
    if row is None:
        return None if arrivals[day] is None else "dries"
    if not is_place(row, place):
        return "row"
    if arrivals[day] is None or not arrivals[day] <= rows[row][0]:
        return "leaves"
    return None


def _lost_tops(safe):
    """For rank after rank, in ascending order, the standings of that rank that are at or below no other one that is
    lost as fast."""
    tops = [[] for _ in range(safe.longest())]
    for standing in safe.field.standings():
        rank = safe.rank(standing)
        # Fuller standings are lost no faster, so those with one unit more tell of all fuller ones.
        fuller = [safe.rank(other) for other in safe.field.beside(standing, 1)]
        if rank > 0 and rank not in fuller:
            tops[rank - 1].append(standing)
    return [standing for row in tops for standing in row]


def _first_above(field, tops):
    """For the number of each standing at or below one of the tops: the place of the first such top."""
    first = {}
    for place, top in enumerate(tops):
        rest = [top]
        while rest:
            standing = rest.pop()
            number = field.number(standing)
            # Below a standing that was found earlier everything has been found, too.
            if number not in first:
                first[number] = place
                rest.extend(field.beside(standing, -1))
    return first


def _answers(safe, standing, first):
    rank = safe.rank(standing)
    moves = [safe.field.moves(standing, turn) for turn in safe.field.ground.turns()]
    return tuple([_answer(safe, arrivals, rank, first) for arrivals in moves])


def _answer(safe, arrivals, rank, first):
    """The first day that dries out a plot or leads to a standing of a lesser rank, and the first row above that."""
    for day, arrival in enumerate(arrivals):
        if arrival is None:
            return day, None
        if 0 < safe.rank(arrival) < rank:
            return day, first[safe.field.number(arrival)]
    return None
