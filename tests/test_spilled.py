"""Points 65 and 66: spilled water and its papers, those of the program and those of others."""

import copy
import itertools
import random
import unittest
from fractions import Fraction
from math import gcd

from helper import OTHER_VALUES, error_of, raised
from samples import EASY, HARMED, TIGHT, WET, OddBook, field_of, some_book, some_fields, standing_of
from test_rates import rate_by_words
from waterbyturns.books import DaysBook, DriestBook, RankBook
from waterbyturns.errors import BadNumber, BadStanding, NotSafe
from waterbyturns.field import Standing
from waterbyturns.judged import Judged
from waterbyturns.spilled import check_spill, spill_paper, spilled


def some_cases(count, seed):
    """Judged books, each with a standing that the book keeps."""
    pick = random.Random(seed)
    fields = [(field, some_book(pick, field)) for field in some_fields(count, seed)]
    for field, book in HARMED + fields + [(EASY, OddBook()), (EASY, DaysBook(["a"], []))]:
        judged = Judged(field, book)
        if judged.kept():
            yield judged, pick.choice(judged.kept())


def steps_by_words(judged, place, standing):
    """For each day the place and the standing to which it leads, and the units spilled."""
    field, book = judged.field, judged.book
    turn = book(field, standing, place)
    return [((place + 1) % book.period, field.after(standing, turn, day), field.spill(standing, turn, day))
            for day in range(len(field.weather[standing.mood]))]


def reached_by_words(judged, standing):
    """The steps of each (place, text) that a run reaches."""
    found, rest = {}, [(0, standing)]
    while rest:
        place, row = rest.pop()
        if (place, str(row)) not in found:
            found[place, str(row)] = steps_by_words(judged, place, row)
            rest.extend((later, arrival) for later, arrival, _ in found[place, str(row)])
    return found


def spilled_by_words(judged, standing, days):
    """The least and the greatest sum, by trying all rows of days."""
    sums = []
    counts = max(len(mood) for mood in judged.field.weather.moods)
    for row in itertools.product(range(counts), repeat=days):
        present, total = standing, 0
        for number, day in enumerate(row):
            steps = steps_by_words(judged, number % judged.book.period, present)
            if day >= len(steps):
                break
            _, present, units = steps[day]
            total += units
        else:
            sums.append(total)
    return min(sums), max(sums)


def least_rate_by_words(judged, standing):
    found = reached_by_words(judged, standing)
    places = {key: place for place, key in enumerate(found)}
    graph = [[(places[later, str(arrival)], units) for later, arrival, units in found[key]] for key in found]
    return rate_by_words(graph)


def is_paper_by_words(judged, standing, paper):
    """Point 65, word by word."""
    units, days, lead, ring, heights = paper
    if units < 0 or days < 1 or gcd(units, days) != 1 or len(ring) < 1:
        return False
    here, total = (0, standing), 0
    for number, day in enumerate([*lead, *ring]):
        if number == len(lead):
            first, total = here, 0
        steps = steps_by_words(judged, *here)
        if day not in range(len(steps)):
            return False
        here, total = steps[day][:2], total + steps[day][2]
    if here[0] != first[0] or here[1] != first[1] or total * days != len(ring) * units:
        return False
    found = reached_by_words(judged, standing)
    table = {(place, str(row)): height for place, row, height in heights}
    if len(heights) != len(table) or set(table) != set(found):
        return False
    return all(days * spilt - units + table[key] - table[later, str(arrival)] >= 0
               for key in found for later, arrival, spilt in found[key])


def changed_paper(pick, judged, paper):
    """The paper with something changed, so that it may be wrong."""
    units, days, lead, ring, heights = paper
    lead, ring, heights = list(lead), list(ring), list(heights)
    pick.shuffle(heights)
    at = pick.randrange(len(heights))
    place, row, height = heights[at]
    kind = pick.randrange(12)
    if kind == 0:
        units = pick.choice([units + 1, units - 1, -units])
    elif kind == 1:
        days = pick.choice([days + 1, days - 1, -days, 0])
    elif kind == 2:
        units, days = 2 * units, 2 * days
    elif kind == 3:
        lead = pick.choice([lead + [0], lead[1:], lead + ring, [-1] + lead, lead + [9]])
    elif kind == 4:
        ring = pick.choice([ring + [0], ring[1:], ring * 3, ring[1:] + ring[:1], [-1] + ring, ring + [9], []])
    elif kind == 5:
        del heights[at]
    elif kind == 6:
        heights.insert(pick.randrange(len(heights)), (place, row, pick.choice([height, height + 1])))
    elif kind == 7:
        heights[at] = (place, row, height + pick.choice([-1, 1, -10, 10]))
    elif kind == 8:
        heights = [(place, row, height + 7) for place, row, height in heights]
    elif kind == 9:
        other = pick.choice(list(judged.field.standings()) + [Standing([8] * 4, 8, 3), Standing([0], 8, 0)])
        heights[at] = (place, other, height)
    elif kind == 10:
        heights[at] = (pick.choice([-1, place + 1, judged.book.period, place + judged.book.period]), row, height)
    else:
        heights = [(place, row, 0) for place, row, _ in heights]
    return units, days, lead, tuple(ring), heights


class SpilledTest(unittest.TestCase):
    def test_least_and_most(self):
        apart = 0
        for judged, standing in some_cases(120, 81):
            for days in range(5):
                expected = spilled_by_words(judged, standing, days)
                self.assertEqual(spilled(judged, standing, days), expected)
                apart += expected[0] < expected[1]
        self.assertGreater(apart, 50)

    def test_by_hand(self):
        # The plot takes what it can, and what the tank cannot hold is spilled.
        field = field_of([("a", 2, 1)], [["a"]], 1, [([1], [0], 2, 0), ([0], [1], 0, 0)])
        judged, full = Judged(field, RankBook("a")), standing_of("0: 2 / 1")
        self.assertEqual(spilled(judged, full, 0), (0, 0))
        self.assertEqual(spilled(judged, full, 1), (1, 2))
        self.assertEqual(spilled(judged, full, 2), (2, 3))
        self.assertEqual(spilled(judged, full, 200), (200, 201))
        still = Judged(field_of([("a", 8, 1)], [], 8, [([8], [8], 8, 0)]), DriestBook())
        self.assertEqual(spilled(still, standing_of("0: 8 / 0"), 200), (1592, 1592))

    def test_the_day_number_counts(self):
        # The tank spills on every day on which the plot gets nothing.
        field = field_of([("a", 8, 3)], [["a"]], 3, [([1], [0], 3, 0)])
        judged = Judged(field, DaysBook(["a"], [], []))
        self.assertEqual([spilled(judged, standing_of("0: 8 / 3"), days) for days in range(6)],
                         [(0, 0), (3, 3), (6, 6), (9, 9), (9, 9), (12, 12)])

    def test_errors(self):
        judged = Judged(TIGHT, DaysBook(["a"], ["b"]))
        kept, lost = judged.kept()[0], standing_of("0: 0 0 / 0")
        for days in [-1, 201, 10 ** 9] + OTHER_VALUES:
            found, attributes = error_of(spilled, judged, kept, days)
            self.assertEqual((found, attributes["what"]), (BadNumber, "days"))
            self.assertIs(attributes["value"], days)
            self.assertEqual(error_of(spilled, judged, lost, days), raised(NotSafe, standing=lost))
        for days in [0, 1, 199, 200]:
            self.assertIsNone(error_of(spilled, judged, kept, days))
        for wrong in [Standing([0], 0, 0), Standing([4, 0], 0, 0), Standing([0, 0], 4, 0), Standing([0, 0], 0, 1)]:
            for call, rest in [(spilled, [-1]), (spilled, [3]), (spill_paper, []), (check_spill, [None])]:
                self.assertEqual(error_of(call, judged, wrong, *rest), raised(BadStanding, standing=wrong))
                self.assertEqual(error_of(call, judged, lost, *rest), raised(NotSafe, standing=lost))

    def test_day_0_decides(self):
        judged = Judged(EASY, DaysBook(["a"], []))
        row = standing_of("0: 0 / 2")
        self.assertTrue(judged.keeps(row) and not judged.keeps(row, day=1))
        self.assertIsNone(error_of(spill_paper, judged, row))
        judged = Judged(EASY, DaysBook([], ["a"]))
        self.assertTrue(judged.keeps(row, day=1) and not judged.keeps(row))
        for call, rest in [(spilled, [1]), (spill_paper, []), (check_spill, [(0, 1, (), (0, 0), [])])]:
            self.assertEqual(error_of(call, judged, row, *rest), raised(NotSafe, standing=row))


class SpillPaperTest(unittest.TestCase):
    def test_papers(self):
        rates, leads = set(), set()
        for judged, standing in some_cases(160, 82):
            paper = spill_paper(judged, standing)
            units, days, lead, ring, heights = paper
            self.assertEqual(Fraction(units, days), least_rate_by_words(judged, standing))
            self.assertTrue(is_paper_by_words(judged, standing, paper))
            self.assertIs(check_spill(judged, standing, paper), True)
            self.assertEqual([type(part) for part in paper], [int, int, tuple, tuple, list])
            self.assertTrue(all(isinstance(row, tuple) and isinstance(row[2], int) for row in heights))
            order = [(place, judged.field.number(row)) for place, row, _ in heights]
            self.assertEqual(order, sorted(order))
            rates.add(Fraction(units, days))
            leads.add(len(lead) > 0)
        self.assertGreater(len(rates), 6)
        self.assertEqual(leads, {True, False})

    def test_by_hand(self):
        judged = Judged(WET, RankBook("a"))
        full = standing_of("0: 2 1 / 1")
        self.assertEqual(spill_paper(judged, full)[:4], (1, 1, (), (0,)))
        self.assertTrue(check_spill(judged, full, (1, 1, [], [0, 0], [(0, full, 5)])))
        field = field_of([("a", 8, 3)], [["a"]], 3, [([1], [0], 3, 0), ([1], [0], 2, 0)])
        judged = Judged(field, DaysBook(["a"], [], []))
        # In the long run what comes and is not drunk is spilled.
        units, days, lead, ring, heights = spill_paper(judged, standing_of("0: 8 / 3"))
        self.assertEqual((units, days, len(ring) % 3), (1, 1, 0))
        seasons = field_of([("a", 4, 2)], [["a"]], 2, [([1], [0], 3, 1)], [([1], [0], 2, 0)])
        self.assertEqual(spill_paper(Judged(seasons, RankBook("a")), standing_of("0: 4 / 2"))[:2], (3, 2))
        judged = Judged(field_of([("a", 4, 2)], [["a"]], 2, [([1], [0], 2, 0)]), RankBook("a"))
        self.assertEqual(spill_paper(judged, standing_of("0: 4 / 0"))[:2], (1, 1))

    def test_nothing_spilled_is_0_of_1(self):
        judged = Judged(EASY, RankBook("a"))
        self.assertEqual(spill_paper(judged, standing_of("0: 0 / 1"))[:2], (0, 1))
        paper = spill_paper(judged, standing_of("0: 0 / 1"))
        self.assertFalse(check_spill(judged, standing_of("0: 0 / 1"), (0, 2, *paper[2:])))
        self.assertFalse(check_spill(judged, standing_of("0: 0 / 1"), (0, 0, *paper[2:])))


class CheckSpillTest(unittest.TestCase):
    def test_papers_of_others(self):
        pick, found = random.Random(83), {True: 0, False: 0}
        for judged, standing in some_cases(150, 84):
            paper = spill_paper(judged, standing)
            for _ in range(14):
                other = changed_paper(pick, judged, paper)
                expected = is_paper_by_words(judged, standing, other)
                self.assertIs(check_spill(judged, standing, other), expected, (paper, other))
                found[expected] += 1
        self.assertGreater(min(found.values()), 100)

    def test_a_rate_that_is_not_the_least(self):
        # Day 0 spills two units, day 1 one unit; each of them alone is a ring.
        field = field_of([("a", 1, 1)], [], 0, [([0], [0], 2, 0), ([0], [0], 1, 0)])
        judged, row = Judged(field, DriestBook()), standing_of("0: 0 / 0")
        self.assertIs(check_spill(judged, row, (1, 1, (), (1,), [(0, row, 0)])), True)
        self.assertIs(check_spill(judged, row, (1, 1, [1, 0], [1, 1], [(0, row, -8)])), True)
        self.assertIs(check_spill(judged, row, (2, 1, (), (0,), [(0, row, 0)])), False)
        self.assertIs(check_spill(judged, row, (3, 2, (), (0, 1), [(0, row, 0)])), False)
        self.assertIs(check_spill(judged, row, (1, 1, (), (0,), [(0, row, 0)])), False)
        self.assertIs(check_spill(judged, row, (0, 1, (), (1,), [(0, row, 0)])), False)
        self.assertIs(check_spill(judged, row, (1, 1, (), (), [(0, row, 0)])), False)
        for day in [2, -1, 5, -2]:
            self.assertIs(check_spill(judged, row, (1, 1, (day,), (1,), [(0, row, 0)])), False)
            self.assertIs(check_spill(judged, row, (1, 1, (), (day,), [(0, row, 0)])), False)
        for rows in [[], [(0, row, 0), (0, row, 0)], [(1, row, 0)], [(-1, row, 0)], [(0, Standing([1], 0, 0), 0)],
                     [(0, row, 0), (0, Standing([1], 0, 0), 0)], [(0, Standing([2], 0, 0), 0)]]:
            self.assertIs(check_spill(judged, row, (1, 1, (), (1,), rows)), False)

    def test_the_place_of_the_ring(self):
        # The standing stays as it is, but the book has two places: a ring of one day does not come back.
        field = field_of([("a", 1, 1)], [["a"]], 0, [([0], [0], 1, 0)])
        judged, row = Judged(field, DaysBook([], ["a"])), standing_of("0: 0 / 0")
        rows = [(1, row, 4), (0, row, 4)]
        self.assertIs(check_spill(judged, row, (1, 1, (), (0, 0), rows)), True)
        self.assertIs(check_spill(judged, row, (1, 1, (0,), (0, 0), rows)), True)
        self.assertIs(check_spill(judged, row, (1, 1, (), (0,), rows)), False)
        self.assertIs(check_spill(judged, row, (1, 1, (), (0, 0, 0), rows)), False)
        self.assertIs(check_spill(judged, row, (1, 1, (), (0, 0), rows[:1])), False)
        self.assertIs(check_spill(judged, row, (1, 1, (), (0, 0), [(2, row, 4), (1, row, 4)])), False)

    def test_nothing_is_changed(self):
        judged = Judged(EASY, RankBook("a"))
        row = standing_of("0: 3 / 2")
        paper = spill_paper(judged, row)
        other = (paper[0], paper[1], list(paper[2]), list(paper[3]), paper[4][::-1])
        before = copy.deepcopy(other)
        self.assertIs(check_spill(judged, row, other), True)
        self.assertEqual(other, before)
        spill_paper(judged, row)[4].clear()
        self.assertEqual(spill_paper(judged, row), paper)


if __name__ == "__main__":
    unittest.main()
