"""Checks of plans and of losses, whoever wrote them."""

from waterbyturns.errors import BadName, BadPaper, BadTurn
from waterbyturns.lots import Lots, in_order
from waterbyturns.sight import check_sight
from waterbyturns.words import is_place


def check_plan(field, sight, standings, rows):
    """True if the rows are a plan for the standings; BadPaper for the first bad row."""
    check_sight(field, sight)
    told = [field.number(standing) for standing in standings]
    lots = Lots(field, sight)
    held = _held_lots(field, rows)
    for at, (place, lot, turn) in enumerate(rows):
        reason = _plan_fault(field, lots, held, place, lot, turn)
        if reason is not None:
            raise BadPaper(at, reason)
    if not _are_held(held, 0, lots.divided(0, told)):
        raise BadPaper(len(rows), "start")
    return True


def check_loss(field, sight, standings, rows):
    """The days of the last row, if the rows are a loss of the standings; BadPaper for the first bad row."""
    check_sight(field, sight)
    told = [field.number(standing) for standing in standings]
    lots = Lots(field, sight)
    days = []
    for at, (place, lot, answers) in enumerate(rows):
        reason = _lot_fault(field, lots, place, lot) or _answers_fault(field, lots, rows, at)
        if reason is not None:
            raise BadPaper(at, reason)
        days.append(1 + max([int(days[row]) for row in answers if row is not None], default=0))
    starts = [_members(lot) for lot in lots.divided(0, told)]
    if not rows or rows[-1][0] != 0 or not _is_in_some(_numbers(field, rows[-1][1]), starts):
        raise BadPaper(len(rows), "start")
    return days[-1]


def _plan_fault(field, lots, held, place, lot, turn):
    """What is wrong with the row of a plan, or None."""
    if not is_place(place, lots.every):
        return "place"
    if not all([field.fits(standing) for standing in lot]):
        return "standing"
    try:
        chosen = field.ground.turn_of(turn)
    except (BadName, BadTurn):
        return "turn"
    led = lots.led(place, _numbers(field, lot), field.ground.turns().index(chosen))
    if led is None:
        return "dries"
    return None if _are_held(held, lots.later(place), led) else "leaves"


def _lot_fault(field, lots, place, lot):
    """What is wrong with the place or with the lot of the row of a loss, or None."""
    if not is_place(place, lots.every):
        return "place"
    if not all([field.fits(standing) for standing in lot]):
        return "standing"
    return None if len(lot) > 0 else "empty"


def _answers_fault(field, lots, rows, at):
    """What is wrong with the answers of the row of a loss, or None."""
    place, lot, answers = rows[at]
    if len(answers) != len(field.ground.turns()):
        return "answers"
    numbers = _numbers(field, lot)
    for turn, row in enumerate(answers):
        led = lots.led(place, numbers, turn)
        if row is None:
            if led is not None:
                return "dries"
        elif not is_place(row, at):
            return "row"
        elif led is None or rows[row][0] != lots.later(place):
            return "leaves"
        elif not _is_in_some(_numbers(field, rows[row][1]), [_members(later) for later in led]):
            return "leaves"
    return None


def _numbers(field, lot):
    """The numbers of the standings of the lot that fit the field, in ascending order, each once."""
    return in_order([field.number(standing) for standing in lot if field.fits(standing)])


def _members(lot):
    return {number: True for number in lot}


def _held_lots(field, rows):
    """For each place and number of a standing: the lots of the rows with that place that contain the standing."""
    held = {}
    for place, lot, _ in rows:
        members = _members(_numbers(field, lot))
        for number in members:
            held.setdefault((place, number), []).append(members)
    return held


def _are_held(held, place, lots):
    """Whether each of the lots is contained in a lot that is held at the place."""
    return all([_is_in_some(lot, held.get((place, lot[0]), [])) for lot in lots])


def _is_in_some(lot, others):
    """Whether the members of one of the others are all in it."""
    for members in others:
        if _is_within(lot, members):
            return True
    return False


def _is_within(lot, members):
    for number in lot:
        if number not in members:
            return False
    return True
