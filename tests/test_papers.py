"""Points 34 to 38: certificates of safe and of lost standings, written by the program and by others."""

import copy
import itertools
import random
import unittest

from helper import error_of, raised
from samples import DRY, EASY, TIGHT, WET, order, ranks_by_words, some_fields, standing_of
from waterbyturns.errors import BadPaper, WaterError
from waterbyturns.field import Field, Standing
from waterbyturns.papers import check_lost, check_safe, covers, lost_paper, safe_paper
from waterbyturns.safe import Safe
from waterbyturns.upsets import UpSet
from waterbyturns.weather import Weather

FIELDS = [EASY, TIGHT, WET, DRY] + some_fields(120, 2)
UNFIT = [Standing([0], 0, 0), Standing([0, 0, 0], 0, 0), Standing([4, 0], 0, 0), Standing([0, 0], 4, 0),
         Standing([0, 0], 0, 1)]


def is_turn(field, names):
    try:
        field.ground.turn_of(names)
    except WaterError:
        return False
    return True


def safe_fault_by_words(field, rows):
    """Point 34: the first bad row and its reason, or None."""
    for place, (standing, turn) in enumerate(rows):
        if not field.fits(standing):
            return place, "standing"
        if not is_turn(field, turn):
            return place, "turn"
        for arrival in field.moves(standing, turn):
            if arrival is None:
                return place, "dries"
            if not any(row[0] <= arrival for row in rows):
                return place, "leaves"
    return None


def lost_fault_by_words(field, rows):
    """Point 36: the first bad row and its reason, or None."""
    turns = field.ground.turns()
    for place, (standing, answers) in enumerate(rows):
        if not field.fits(standing):
            return place, "standing"
        if len(answers) != len(turns):
            return place, "answers"
        for turn, (day, row) in zip(turns, answers):
            moves = field.moves(standing, turn)
            if day not in range(len(moves)):
                return place, "day"
            if row is not None and row not in range(place):
                return place, "row"
            if row is None and moves[day] is not None:
                return place, "dries"
            if row is not None and (moves[day] is None or not moves[day] <= rows[row][0]):
                return place, "leaves"
    return None


def lost_paper_by_words(field):
    """Point 37, word by word."""
    found = ranks_by_words(field)
    lost = [row for row in field.standings() if found[str(row)] > 0]
    rows = []
    for rank in range(1, max(found.values()) + 1):
        tops = [row for row in lost if found[str(row)] == rank
                and not any(row <= other and row != other and found[str(other)] <= rank for other in lost)]
        before = list(rows)
        for top in sorted(tops, key=order):
            rows.append((top, tuple(first_answer(field.moves(top, turn), before) for turn in field.ground.turns())))
    return rows


def first_answer(moves, rows):
    for day, arrival in enumerate(moves):
        if arrival is None:
            return day, None
        for place, row in enumerate(rows):
            if arrival <= row[0]:
                return day, place


def fault_of(check, field, rows):
    """The bad row and the reason with which the check refuses the rows, or None."""
    found = error_of(check, field, rows)
    if found is None:
        return None
    assert found[0] is BadPaper, found
    return found[1]["row"], found[1]["reason"]


def changed_safe(pick, field, rows):
    """The rows with something changed, so that they may be wrong."""
    rows = list(rows)
    standings, turns = list(field.standings()), field.ground.turns()
    for _ in range(pick.randint(1, 2)):
        kind = pick.randrange(6)
        if kind == 0 or not rows:
            rows.insert(pick.randint(0, len(rows)), (pick.choice(standings), pick.choice(turns)))
        elif kind == 1:
            del rows[pick.randrange(len(rows))]
        elif kind == 2:
            place = pick.randrange(len(rows))
            rows[place] = (rows[place][0], pick.choice(turns))
        elif kind == 3:
            place = pick.randrange(len(rows))
            rows[place] = (pick.choice(standings), rows[place][1])
        elif kind == 4:
            rows[pick.randrange(len(rows))] = (pick.choice(UNFIT), ())
        else:
            place = pick.randrange(len(rows))
            rows[place] = (rows[place][0], pick.choice([["a", "a"], ["x"], list("abcd"), ["c", "a"]]))
    return rows


def changed_lost(pick, field, rows):
    """The rows with something changed, so that they may be wrong."""
    rows = [(standing, [list(answer) for answer in answers]) for standing, answers in rows]
    for _ in range(pick.randint(1, 2)):
        kind = pick.randrange(7)
        place = pick.randrange(len(rows))
        standing, answers = rows[place]
        if kind == 0 and len(rows) > 1:
            del rows[place]
        elif kind == 1:
            rows[place] = (pick.choice(list(field.standings())), answers)
        elif kind == 2 and answers:
            pick.choice(answers)[0] = pick.choice([0, 1, 2, 3, -1])
        elif kind == 3 and answers:
            pick.choice(answers)[1] = pick.choice([None, 0, 1, place, place + 1, -1])
        elif kind == 4:
            rows[place] = (standing, answers[1:])
        elif kind == 5:
            rows[place] = (pick.choice(UNFIT), answers)
        else:
            rows.insert(pick.randint(0, len(rows)), rows[place])
    return rows


class SafePaperTest(unittest.TestCase):
    def test_one_row_for_each_least_safe_standing(self):
        for field in FIELDS:
            safe = Safe(field)
            rows = safe_paper(safe)
            self.assertEqual(rows, [(row, safe.first_turn(row)) for row in safe.least.least])
            self.assertTrue(all(isinstance(row, tuple) for row in rows))
            self.assertTrue(check_safe(field, rows) == safe.least)

    def test_no_standing_or_all_standings(self):
        self.assertEqual(safe_paper(Safe(DRY)), [])
        self.assertEqual(safe_paper(Safe(WET)), [(standing_of("0: 0 0 / 0"), ())])
        self.assertEqual(safe_paper(Safe(EASY)), [(standing_of("0: 0 / 1"), ("a",)), (standing_of("0: 1 / 0"), ())])

    def test_all_safe_standings_with_any_good_turn(self):
        for field in FIELDS:
            safe = Safe(field)
            for end in [0, -1]:
                rows = [(row, list(safe.turns(row)[end][::-1])) for row in field.standings() if safe.keeps(row)]
                self.assertTrue(check_safe(field, rows[::-1]) == safe.least)

    def test_the_empty_list_is_accepted(self):
        for field in FIELDS[:8]:
            found = check_safe(field, [])
            self.assertIsInstance(found, UpSet)
            self.assertEqual(found.least, ())

    def test_a_part_may_be_accepted(self):
        rows = [(standing_of("0: 3 / 2"), []), (standing_of("0: 2 / 2"), ["a"])]
        self.assertEqual(check_safe(EASY, rows).least, (standing_of("0: 2 / 2"),))
        self.assertEqual(fault_of(check_safe, EASY, rows[:1]), (0, "leaves"))
        self.assertEqual(fault_of(check_safe, EASY, rows[1:]), None)

    def test_changed_papers(self):
        pick, seen = random.Random(3), set()
        for field in FIELDS * 3:
            rows = changed_safe(pick, field, safe_paper(Safe(field)))
            fault = safe_fault_by_words(field, rows)
            self.assertEqual(fault_of(check_safe, field, rows), fault)
            seen.add(fault and fault[1])
            if fault is None:
                safe = Safe(field)
                found = check_safe(field, rows)
                self.assertTrue(found == UpSet([standing for standing, _ in rows]))
                self.assertTrue(all(safe.keeps(row) for row in field.standings() if row in found))
        self.assertEqual(seen, {None, "standing", "turn", "dries", "leaves"})


class SafeFaultsTest(unittest.TestCase):
    GOOD = safe_paper(Safe(TIGHT))

    def faults(self, rows):
        return fault_of(check_safe, TIGHT, rows)

    def test_standings_that_do_not_fit(self):
        for standing in UNFIT:
            self.assertEqual(self.faults(self.GOOD + [(standing, ())]), (7, "standing"))
            self.assertEqual(self.faults([(standing, ["x"])] + self.GOOD), (0, "standing"))

    def test_turns(self):
        full = standing_of("0: 3 3 / 3")
        for turn in [["x"], ("c",), ["a", "b"], ["a", "a"], ["", "a"], ("A",), ["b", "b"]]:
            self.assertEqual(self.faults(self.GOOD + [(full, turn)]), (7, "turn"))
        for turn in [[], (), ["a"], ("b",)]:
            self.assertIsNone(self.faults(self.GOOD + [(full, turn)]))

    def test_days_that_dry_or_leave(self):
        self.assertEqual(self.faults([(standing_of("0: 0 1 / 2"), ("b",))] + self.GOOD), (0, "dries"))
        self.assertEqual(self.faults([(standing_of("0: 1 1 / 0"), ())] + self.GOOD), (0, "leaves"))
        self.assertEqual(self.faults(self.GOOD[1:]), (0, "leaves"))

    def test_the_days_are_looked_at_in_order(self):
        # Day 0 of the sample dries out plot b, day 1 only leads away from the row.
        rows = [(standing_of("0: 3 0 / 3"), ["a"])]
        self.assertEqual(self.faults(rows), (0, "dries"))
        swapped = Field(TIGHT.ground, Weather(TIGHT.weather[0][::-1]))
        self.assertEqual(fault_of(check_safe, swapped, rows), (0, "leaves"))

    def test_the_first_bad_row_counts(self):
        bad = [((standing_of("0: 0 1 / 2"), ("b",)), "dries"), ((UNFIT[0], ()), "standing"),
               ((standing_of("0: 3 3 / 3"), ["x"]), "turn")]
        for rows in itertools.permutations(bad):
            self.assertEqual(self.faults(self.GOOD + [row for row, _ in rows]), (7, rows[0][1]))

    def test_rows_that_do_not_fit_are_below_nothing(self):
        rows = [(standing_of("0: 1 1 / 0"), ()), (Standing([0], 0, 0), ()), (Standing([0, 0], 8, 0), ())]
        self.assertEqual(self.faults(rows), (0, "leaves"))

    def test_nothing_is_changed(self):
        rows = [(standing, list(turn)) for standing, turn in self.GOOD]
        before = copy.deepcopy(rows)
        found = check_safe(TIGHT, rows)
        self.assertEqual(rows, before)
        rows.clear()
        self.assertEqual(len(found), 7)


class LostPaperTest(unittest.TestCase):
    def test_what_the_program_writes(self):
        kinds = set()
        for field in FIELDS:
            safe = Safe(field)
            rows = lost_paper(safe)
            self.assertEqual(rows, lost_paper_by_words(field))
            self.assertEqual(check_lost(field, rows), [safe.rank(standing) for standing, _ in rows])
            for row in rows:
                self.assertIsInstance(row, tuple)
                self.assertIsInstance(row[1], tuple)
                self.assertTrue(all(isinstance(answer, tuple) for answer in row[1]))
            kinds.add(safe.longest())
        self.assertGreaterEqual(len(kinds), 6)

    def test_no_standing_or_all_standings(self):
        self.assertEqual(lost_paper(Safe(WET)), [])
        self.assertEqual(lost_paper(Safe(EASY)), [(standing_of("0: 0 / 0"), ((0, None), (0, None)))])
        rows = lost_paper(Safe(DRY))
        self.assertEqual(check_lost(DRY, rows), [1] * 4 + [2] * 8 + [3] * 11 + [4] * 6 + [5] * 2)
        self.assertTrue(covers(DRY, [], rows))

    def test_a_paper_that_is_told_by_hand(self):
        self.assertEqual(lost_paper(Safe(TIGHT))[3:], [
            (standing_of("0: 0 1 / 1"), ((0, None), (0, 0), (0, None))),
            (standing_of("0: 1 0 / 1"), ((0, None), (0, None), (0, 0))),
            (standing_of("0: 1 1 / 0"), ((0, 0), (0, 0), (0, 0)))])

    def test_the_empty_list_is_accepted(self):
        for field in FIELDS[:8]:
            self.assertEqual(check_lost(field, []), [])

    def test_an_accepted_paper_is_right(self):
        pick, seen = random.Random(5), set()
        for field in FIELDS * 3:
            safe = Safe(field)
            rows = lost_paper(safe)
            if not rows:
                continue
            rows = changed_lost(pick, field, rows)
            fault = lost_fault_by_words(field, rows)
            self.assertEqual(fault_of(check_lost, field, rows), fault)
            seen.add(fault and fault[1])
            if fault is None:
                days = check_lost(field, rows)
                for (top, answers), count in zip(rows, days):
                    named = [days[row] for _, row in answers if row is not None]
                    self.assertEqual(count, 1 + max(named, default=0))
                    for row in field.standings():
                        if row <= top:
                            self.assertTrue(0 < safe.rank(row) <= count)
        self.assertEqual(seen, {None, "standing", "answers", "day", "row", "dries", "leaves"})

    def test_a_paper_may_be_longer_than_needed(self):
        low, high = standing_of("0: 0 / 0"), standing_of("0: 1 / 0")
        field = Field(EASY.ground, Weather.steady([1], [0], 0))
        rows = [(low, [[0, None], [0, None]]), (high, [(0, 0), (0, 0)]), (low, ((0, None), (0, None))),
                (standing_of("0: 0 / 1"), [(0, None), (0, 1)]), (high, [(0, 2), (0, 0)])]
        self.assertEqual(check_lost(field, rows), [1, 2, 1, 3, 2])
        self.assertEqual(Safe(field).rank(standing_of("0: 0 / 1")), 2)

    def test_nothing_is_changed_and_lists_are_new(self):
        rows = [(standing, [list(answer) for answer in answers]) for standing, answers in lost_paper(Safe(TIGHT))]
        before = copy.deepcopy(rows)
        check_lost(TIGHT, rows).clear()
        self.assertEqual(check_lost(TIGHT, rows), [1, 1, 1, 2, 2, 2])
        self.assertEqual(rows, before)
        safe = Safe(TIGHT)
        lost_paper(safe).clear()
        safe_paper(safe).clear()
        self.assertEqual((len(lost_paper(safe)), len(safe_paper(safe))), (6, 7))


class LostFaultsTest(unittest.TestCase):
    GOOD = [(standing_of("0: 0 0 / 3"), ((0, None), (0, None), (0, None))),
            (standing_of("0: 0 1 / 1"), ((0, None), (0, 0), (0, None)))]

    def fault(self, standing, answers, good=GOOD):
        return fault_of(check_lost, TIGHT, good + [(standing, answers)])

    def test_the_good_rows(self):
        self.assertEqual(check_lost(TIGHT, self.GOOD), [1, 2])

    def test_standings_and_the_number_of_answers(self):
        low = standing_of("0: 0 0 / 0")
        for standing in UNFIT:
            self.assertEqual(self.fault(standing, ()), (2, "standing"))
        for answers in [(), [(0, None)], [(0, None)] * 2, [(0, None)] * 4]:
            self.assertEqual(self.fault(low, answers), (2, "answers"))
        self.assertIsNone(self.fault(low, [(0, None)] * 3))

    def test_days(self):
        low = standing_of("0: 0 0 / 0")
        for day in [-1, 2, 3, 6, 100]:
            for row in [None, 7]:
                self.assertEqual(self.fault(low, [(0, None), (0, None), (day, row)]), (2, "day"))
        self.assertIsNone(self.fault(low, [(0, None), (1, None), (0, None)]))

    def test_rows(self):
        standing = standing_of("0: 0 1 / 1")
        for row in [-1, 2, 3, 100]:
            self.assertEqual(self.fault(standing, [(0, None), (0, row), (0, None)]), (2, "row"))
            self.assertEqual(self.fault(standing, [(0, row), (0, 0), (0, None)]), (2, "row"))
        for row, fault in [(0, None), (1, (2, "leaves"))]:
            self.assertEqual(self.fault(standing, [(0, None), (0, row), (0, None)]), fault)

    def test_days_that_dry_out_nothing(self):
        standing = standing_of("0: 0 1 / 1")
        self.assertEqual(self.fault(standing, [(0, None), (0, None), (0, None)]), (2, "dries"))
        self.assertEqual(self.fault(standing_of("0: 1 0 / 0"), [(1, None)] * 3), (2, "dries"))

    def test_days_that_lead_elsewhere(self):
        self.assertEqual(self.fault(standing_of("0: 0 1 / 1"), [(0, 0), (0, 0), (0, None)]), (2, "leaves"))
        self.assertEqual(self.fault(standing_of("0: 0 2 / 1"), [(0, None), (0, 0), (0, None)]), (2, "leaves"))
        self.assertEqual(self.fault(standing_of("0: 1 1 / 0"), [(0, 0), (1, 0), (0, 0)]), (2, "leaves"))

    def test_what_comes_first(self):
        low, high = standing_of("0: 0 0 / 0"), standing_of("0: 3 3 / 3")
        self.assertEqual(self.fault(high, [(0, None), (9, 9), (0, 9)]), (2, "dries"))
        self.assertEqual(self.fault(high, [(0, 0), (0, None), (9, 9)]), (2, "leaves"))
        self.assertEqual(self.fault(low, [(0, 9), (9, None), (0, 0)]), (2, "row"))
        self.assertEqual(self.fault(low, [(9, 9), (0, 9), (0, 0)]), (2, "day"))
        self.assertEqual(self.fault(low, [(0, 9)], [(low, [(0, None)])] + self.GOOD), (0, "answers"))
        self.assertEqual(self.fault(UNFIT[0], [], [(high, [(0, None)] * 3)]), (0, "dries"))


class CoversTest(unittest.TestCase):
    def test_what_the_program_writes(self):
        for field in FIELDS:
            safe = Safe(field)
            kept, lost = safe_paper(safe), lost_paper(safe)
            self.assertIs(covers(field, kept, lost), True)
            self.assertIs(covers(field, kept, []), lost == [])
            self.assertIs(covers(field, [], lost), kept == [])
            self.assertIs(covers(field, kept, lost[:-1]), lost == [])

    def test_every_standing_counts(self):
        for field in FIELDS[:40]:
            safe = Safe(field)
            lost = lost_paper(safe)
            every = [(row, safe.first_turn(row)) for row in field.standings() if safe.keeps(row)]
            self.assertIs(covers(field, every, lost), True)
            for size in range(len(lost)):
                expected = all(safe.keeps(row) or any(row <= top for top, _ in lost[:size])
                               for row in field.standings())
                self.assertIs(covers(field, every, lost[:size]), expected)

    def test_both_papers_are_checked_the_safe_one_first(self):
        safe = Safe(TIGHT)
        kept, lost = safe_paper(safe), lost_paper(safe)
        wrong = (UNFIT[0], ())
        self.assertEqual(error_of(covers, TIGHT, kept + [wrong], lost), raised(BadPaper, row=7, reason="standing"))
        self.assertEqual(error_of(covers, TIGHT, kept, lost + [wrong]), raised(BadPaper, row=6, reason="standing"))
        self.assertEqual(error_of(covers, TIGHT, kept[1:], lost[1:]), raised(BadPaper, row=0, reason="leaves"))
        self.assertEqual(error_of(covers, TIGHT, [], [wrong]), raised(BadPaper, row=0, reason="standing"))
        self.assertEqual(error_of(covers, TIGHT, kept, lost[1:]), raised(BadPaper, row=2, reason="leaves"))


if __name__ == "__main__":
    unittest.main()
