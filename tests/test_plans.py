"""Points 55 and 56: checks of plans and losses, written by the program and by others."""

import copy
import random
import unittest

from helper import error_of, raised
from samples import EASY, TIGHT, field_of, standing_of, texts
from test_sight import (SEEING, as_lot, divided_by_words, led_by_words, some_cases, some_sight, watched_by_words)
from waterbyturns.errors import BadName, BadPaper, BadStanding, WaterError
from waterbyturns.field import Standing
from waterbyturns.plans import check_loss, check_plan
from waterbyturns.sight import Sight, Watch

UNFIT = [Standing([0], 0, 0), Standing([0, 0, 0], 0, 0), Standing([8, 0], 0, 0), Standing([0, 0], 8, 0),
         Standing([0, 0], 0, 3)]


def is_turn(field, names):
    try:
        field.ground.turn_of(names)
    except WaterError:
        return False
    return True


def is_held(field, lot, others):
    """Whether the lot of texts is contained in one of the other lots, each with its place."""
    return any(lot[0] == other[0] and lot[1] <= other[1] for other in others)


def starts_of(field, sight, told):
    return divided_by_words(field, sight, 0, {str(row) for row in told})


def plan_fault_by_words(field, sight, told, rows):
    """Point 55: the first bad row and its reason, or None."""
    others = [as_lot(row) for row in rows]
    for at, (place, lot, turn) in enumerate(rows):
        if place not in range(sight.every):
            return at, "place"
        if not all(field.fits(standing) for standing in lot):
            return at, "standing"
        if not is_turn(field, turn):
            return at, "turn"
        led = led_by_words(field, sight, others[at], turn)
        if led is None:
            return at, "dries"
        if not all(is_held(field, later, others) for later in led):
            return at, "leaves"
    return None if all(is_held(field, lot, others) for lot in starts_of(field, sight, told)) else (len(rows), "start")


def loss_fault_by_words(field, sight, told, rows):
    """Point 56: the first bad row and its reason, or None."""
    turns = field.ground.turns()
    for at, (place, lot, answers) in enumerate(rows):
        if place not in range(sight.every):
            return at, "place"
        if not all(field.fits(standing) for standing in lot):
            return at, "standing"
        if not lot:
            return at, "empty"
        if len(answers) != len(turns):
            return at, "answers"
        for turn, row in zip(turns, answers):
            led = led_by_words(field, sight, as_lot(rows[at]), turn)
            if row is None and led is not None:
                return at, "dries"
            if row is not None and row not in range(at):
                return at, "row"
            if row is not None and (led is None or not is_held(field, as_lot(rows[row]), led)):
                return at, "leaves"
    if not rows or not is_held(field, as_lot(rows[-1]), starts_of(field, sight, told)) or rows[-1][0] != 0:
        return len(rows), "start"
    return None


def fault_of(check, *values):
    """The bad row and the reason with which the check refuses the rows, or None."""
    found = error_of(check, *values)
    if found is None:
        return None
    assert found[0] is BadPaper, found
    return found[1]["row"], found[1]["reason"]


def changed_plan(pick, field, sight, rows):
    """The rows, as lists in any order, with something changed, so that they may be wrong."""
    rows = [(place, pick.sample(lot, len(lot)) + pick.choices(lot, k=1), list(turn)[::-1]) for place, lot, turn in rows]
    pick.shuffle(rows)
    for _ in range(pick.randint(0, 2)):
        at = pick.randrange(len(rows))
        place, lot, turn = rows[at]
        kind = pick.randrange(9)
        if kind == 0 and len(rows) > 1:
            del rows[at]
        elif kind == 1:
            rows[at] = (pick.choice([-1, 0, 1, sight.every - 1, sight.every, 7]), lot, turn)
        elif kind == 2:
            rows[at] = (place, lot + [pick.choice(list(field.standings()))], turn)
        elif kind == 3:
            rows[at] = (place, lot + [pick.choice(UNFIT)], turn)
        elif kind == 4:
            rows[at] = (place, lot, pick.choice(field.ground.turns()))
        elif kind == 5:
            rows[at] = (place, lot, pick.choice([["x"], ["a", "a"], list("abcd"), ["c", "b"]]))
        elif kind == 6:
            rows[at] = (place, [row for row in lot if row != lot[0]], turn)
        elif kind == 7:
            rows.insert(at, (pick.randrange(sight.every), pick.choice([[], lot[:1]]), turn))
        else:
            rows.insert(at, rows[pick.randrange(len(rows))])
    return rows


def changed_loss(pick, field, sight, rows):
    """The rows of a loss with something changed, so that they may be wrong."""
    rows = [(place, pick.sample(lot, len(lot)) + pick.choices(lot, k=1), list(answers)) for place, lot, answers in rows]
    for _ in range(pick.randint(0, 2)):
        at = pick.randrange(len(rows))
        place, lot, answers = rows[at]
        kind = pick.randrange(9)
        if kind == 0:
            del rows[at:at + pick.choice([1, 1, len(rows)])]
            if not rows:
                break
        elif kind == 1:
            rows[at] = (pick.choice([-1, 0, 1, sight.every - 1, sight.every, 7]), lot, answers)
        elif kind == 2:
            rows[at] = (place, lot + [pick.choice(list(field.standings()))], answers)
        elif kind == 3:
            rows[at] = (place, lot + [pick.choice(UNFIT)], answers)
        elif kind == 4:
            rows[at] = (place, pick.choice([[], lot[:1]]), answers)
        elif kind == 5:
            rows[at] = (place, lot, answers[1:])
        elif kind == 6 and answers:
            answers = list(answers)
            answers[pick.randrange(len(answers))] = pick.choice([None, 0, 1, at - 1, at, -1])
            rows[at] = (place, lot, answers)
        elif kind == 7:
            rows = rows + [rows[at]]
        else:
            rows.insert(at, rows[at])
    return rows


class CheckPlanTest(unittest.TestCase):
    def test_plans_of_others(self):
        pick, seen = random.Random(41), {}
        for field, sight, told in self.cases(pick):
            if len(watched_by_words(field, sight, told)[1]) > 400 or not Watch(field, sight).keeps(told):
                continue
            plan = Watch(field, sight).plan(told)
            self.assertIs(check_plan(field, sight, told, plan), True)
            for _ in range(6):
                rows = changed_plan(pick, field, sight, plan)
                fault = plan_fault_by_words(field, sight, told, rows)
                self.assertEqual(fault_of(check_plan, field, sight, told, rows), fault)
                if fault is None:
                    self.assertIs(check_plan(field, sight, told, rows), True)
                reason = fault and fault[1]
                seen[reason] = seen.get(reason, 0) + 1
        self.assertEqual(set(seen), {None, "place", "standing", "turn", "dries", "leaves", "start"})
        self.assertGreater(min(seen.values()), 5)

    def cases(self, pick):
        rows = list(SEEING.standings())
        cases = [(SEEING, some_sight(pick, SEEING), pick.sample(rows, 1)) for _ in range(60)]
        return cases + list(some_cases(120, 42))

    def test_whoever_wrote_it_the_standings_are_kept(self):
        pick, accepted = random.Random(43), 0
        for field, sight, told in self.cases(pick):
            starts, options, lots = watched_by_words(field, sight, told)
            rows = [(place, [standing_of(text) for text in lot], pick.choice(field.ground.turns()))
                    for place, lot in options for _ in range(2)]
            if fault_of(check_plan, field, sight, told, rows) is None:
                accepted += 1
                self.assertFalse(any(lots[start] for start in starts))
        self.assertGreater(accepted, 5)

    def test_no_rows(self):
        for field, sight, told in some_cases(20, 44):
            self.assertIs(check_plan(field, sight, [], []), True)
            self.assertEqual(fault_of(check_plan, field, sight, told, []), (0, "start"))

    def test_rows_of_empty_lots(self):
        sight = Sight("a", every=2)
        for place in [0, 1]:
            self.assertIs(check_plan(SEEING, sight, [], [(place, [], ["a"]), (place, (), ())]), True)
            self.assertEqual(fault_of(check_plan, SEEING, sight, [], [(place, [], ["a", "b"])]), (0, "turn"))
            self.assertEqual(fault_of(check_plan, SEEING, sight, [standing_of("0: 2 2 / 2")], [(place, [], ())]),
                             (1, "start"))
        self.assertEqual(fault_of(check_plan, SEEING, sight, [], [(2, [], ["x"])]), (0, "place"))

    def test_larger_lots_may_hold_the_smaller_ones(self):
        low, high, dry = standing_of("0: 0 / 1"), standing_of("0: 1 / 0"), standing_of("0: 0 / 0")
        told = [high]
        self.assertIs(check_plan(EASY, Sight(), told, [(0, [high, low, high], ["a"])]), True)
        self.assertEqual(fault_of(check_plan, EASY, Sight(), told, [(0, [high], ["a"])]), (0, "leaves"))
        self.assertEqual(fault_of(check_plan, EASY, Sight(), told, [(0, [high, low, dry], ["a"])]), (0, "dries"))
        self.assertEqual(fault_of(check_plan, EASY, Sight(), [dry], [(0, [high, low], ["a"])]), (1, "start"))
        # A hand that sees the plot cannot keep both standings in one row of its plan, but the row may hold each lot.
        self.assertIs(check_plan(EASY, Sight("a"), [high, low], [(0, [low, high], ["a"])]), True)

    def test_a_row_with_another_place_holds_nothing(self):
        low, high = standing_of("0: 0 / 1"), standing_of("0: 1 / 0")
        sight = Sight(every=2)
        rows = [(0, [high, low], ["a"]), (1, [low, high], ["a"])]
        self.assertIs(check_plan(EASY, sight, [high], rows), True)
        self.assertEqual(fault_of(check_plan, EASY, sight, [high], rows[:1]), (0, "leaves"))
        self.assertEqual(fault_of(check_plan, EASY, sight, [], rows[:1]), (0, "leaves"))
        self.assertEqual(fault_of(check_plan, EASY, sight, [], rows[1:]), (0, "leaves"))

    def test_what_comes_first(self):
        lot = [standing_of("0: 0 0 / 0")]
        for row, reason in [((1, UNFIT, ["x"]), "place"), ((0, lot + UNFIT[:1], ["x"]), "standing"),
                            ((0, lot, ["x"]), "turn"), ((0, lot, ["a", "b"]), "turn"), ((0, lot, ["a", "a"]), "turn"),
                            ((0, lot, ["a"]), "dries"), ((0, [standing_of("0: 2 2 / 0")], []), "leaves")]:
            for more in [[], [(9, lot, [])]]:
                self.assertEqual(fault_of(check_plan, TIGHT, Sight(), lot, [row] + more), (0, reason))
        for place in [-1, 3, 4, 100]:
            self.assertEqual(fault_of(check_plan, TIGHT, Sight(every=3), lot, [(place, [], [])]), (0, "place"))
        for place in [0, 1, 2]:
            self.assertIs(check_plan(TIGHT, Sight(every=3), [], [(place, [], [])]), True)

    def test_a_lot_that_fails_and_leaves(self):
        # The first standing leads to lots that no row holds, the second one dries out: the turn fails.
        lot = [standing_of("0: 3 3 / 3"), standing_of("0: 0 0 / 0")]
        self.assertEqual(fault_of(check_plan, TIGHT, Sight(), [], [(0, lot, [])]), (0, "dries"))

    def test_more_than_400_lots(self):
        field = field_of([("a", 8, 1), ("b", 8, 1)], [], 8, [([0, 0], [0, 0], 0, 0)])
        told = list(field.standings())
        sight = Sight("a", "b", tank=True)
        rows = [(0, [row], ()) for row in told]
        self.assertIs(check_plan(field, sight, told, rows), True)
        self.assertEqual(fault_of(check_plan, field, sight, told, rows[:-1]), (728, "start"))
        self.assertEqual(fault_of(check_loss, field, sight, told, [(0, told[:1], [0])]), (0, "row"))


class CheckLossTest(unittest.TestCase):
    def test_losses_of_others(self):
        pick, seen = random.Random(51), {}
        rows = list(SEEING.standings())
        cases = [(SEEING, some_sight(pick, SEEING), pick.sample(rows, 2)) for _ in range(60)]
        for field, sight, told in cases + list(some_cases(150, 52)):
            if len(watched_by_words(field, sight, told)[1]) > 400 or Watch(field, sight).keeps(told):
                continue
            loss = Watch(field, sight).loss(told)
            for _ in range(5):
                rows = changed_loss(pick, field, sight, loss)
                fault = loss_fault_by_words(field, sight, told, rows)
                self.assertEqual(fault_of(check_loss, field, sight, told, rows), fault)
                if fault is None:
                    days = self.days_by_words(rows)
                    self.assertEqual(check_loss(field, sight, told, rows), days)
                reason = fault and fault[1]
                seen[reason] = seen.get(reason, 0) + 1
        self.assertEqual(set(seen), {None, "place", "standing", "empty", "answers", "dries", "row", "leaves", "start"})
        self.assertGreater(min(seen.values()), 3)

    def days_by_words(self, rows):
        days = []
        for _, _, answers in rows:
            days.append(1 + max([days[answer] for answer in answers if answer is not None], default=0))
        return days[-1]

    def test_kept_standings_have_no_loss(self):
        pick = random.Random(53)
        for field, sight, told in some_cases(100, 54):
            if len(watched_by_words(field, sight, told)[1]) > 400 or not Watch(field, sight).keeps(told):
                continue
            other = [row for row in field.standings() if error_of(Watch(field, sight).loss, [row]) is None]
            losses = [Watch(field, sight).loss([row]) for row in pick.sample(other, min(4, len(other)))]
            for rows in [loss for loss in losses if loss]:
                self.assertEqual(fault_of(check_loss, field, sight, told, rows), (len(rows), "start"))

    def test_no_rows(self):
        for field, sight, told in some_cases(20, 55):
            for standings in [told, []]:
                self.assertEqual(fault_of(check_loss, field, sight, standings, []), (0, "start"))

    def test_the_last_row(self):
        dry, low, high = standing_of("0: 0 / 0"), standing_of("0: 0 / 1"), standing_of("0: 1 / 0")
        row = (0, [dry, dry], [None, None])
        self.assertEqual(check_loss(EASY, Sight(), [low, dry], [row]), 1)
        self.assertEqual(check_loss(EASY, Sight(), [high, dry], [(0, (high, dry), (None, None)), row]), 1)
        self.assertEqual(fault_of(check_loss, EASY, Sight(), [low], [row]), (1, "start"))
        self.assertEqual(fault_of(check_loss, EASY, Sight(), [], [row]), (1, "start"))
        self.assertEqual(fault_of(check_loss, EASY, Sight("a"), [low, high], [row]), (1, "start"))
        self.assertEqual(fault_of(check_loss, EASY, Sight(every=2), [dry], [row, (1, [dry], [None, None])]), (2, "start"))
        self.assertEqual(check_loss(EASY, Sight(every=2), [dry], [(1, [dry], [None, None]), row]), 1)
        wide = (0, [dry, high], [None, None])
        self.assertEqual(fault_of(check_loss, EASY, Sight("a"), [dry, high], [wide]), (1, "start"))
        self.assertEqual(check_loss(EASY, Sight(tank=True), [dry, high], [wide]), 1)

    def test_what_comes_first(self):
        dry, full = standing_of("0: 0 0 / 0"), standing_of("0: 3 3 / 3")
        good = (0, [dry], [None] * 3)
        for row, reason in [((1, UNFIT, []), "place"), ((0, [dry, UNFIT[0]], []), "standing"), ((0, [], []), "empty"),
                            ((0, [dry], [None] * 2), "answers"), ((0, [dry], [None] * 4), "answers"),
                            ((0, [full], [None, 9, 0]), "dries"), ((0, [full], [9, None, 0]), "row"),
                            ((0, [full], [0, None, 9]), "leaves"), ((0, [dry], [None, 0, 9]), "leaves"),
                            ((0, [dry], [1, None, None]), "row"), ((0, [dry], [None, -1, None]), "row")]:
            for more in [[], [(9, [], [])]]:
                self.assertEqual(fault_of(check_loss, TIGHT, Sight(), [dry], [good, row] + more), (1, reason))

    def test_the_place_and_the_lot_of_the_named_row(self):
        field, high, low = EASY, standing_of("0: 1 / 0"), standing_of("0: 0 / 0")
        other = field_of([("a", 3, 2)], [["a"]], 2, [([1], [0], 0, 0)])
        sight = Sight(every=2)
        last = (0, [high], [1, 1])
        for place, fault in [(1, None), (0, (2, "leaves"))]:
            rows = [(1, [low], [None, None]), (place, [low, low], (None, None)), last]
            self.assertEqual(fault_of(check_loss, other, sight, [high], rows), fault)
        rows = [(1, [low, high], [None, None]), (1, [low, high], (None, None)), last]
        self.assertEqual(fault_of(check_loss, other, sight, [high], rows), (2, "leaves"))
        self.assertEqual(fault_of(check_loss, field, sight, [high], [(1, [low], [None, None])] * 2 + [last]),
                         (2, "leaves"))


class ErrorsTest(unittest.TestCase):
    def test_names_then_standings_then_rows(self):
        wrong = [(9, UNFIT, [])]
        for check in [check_plan, check_loss]:
            self.assertEqual(error_of(check, TIGHT, Sight("z", "b", "x"), UNFIT, wrong), raised(BadName, name="x"))
            for place in range(5):
                told = [standing_of("0: 0 0 / 0")] + UNFIT[place:]
                found, attributes = error_of(check, TIGHT, Sight("b"), told, wrong)
                self.assertIs(found, BadStanding)
                self.assertIs(attributes["standing"], UNFIT[place])
            self.assertEqual(error_of(check, TIGHT, Sight("b"), told[:1], wrong), raised(BadPaper, row=0, reason="place"))

    def test_nothing_is_changed(self):
        told = [standing_of("0: 1 / 0"), standing_of("0: 0 / 1")]
        rows = [(0, [told[1], told[0], told[1]], ["a"])]
        before = copy.deepcopy((told, rows))
        check_plan(EASY, Sight(), told, rows)
        self.assertEqual((told, rows), before)
        dry = standing_of("0: 0 / 0")
        rows = [(0, [told[1], dry, dry], [None, None])]
        before = copy.deepcopy(rows)
        self.assertEqual(check_loss(EASY, Sight(), [dry] + told, rows), 1)
        self.assertEqual(rows, before)
        self.assertEqual(texts(told), ["0: 1 / 0", "0: 0 / 1"])


if __name__ == "__main__":
    unittest.main()
