"""Points 47 to 49: books beside what is safe and beside each other."""

import itertools
import random
import unittest

from helper import error_of, raised
from samples import DRY, EASY, HARMED, TIGHT, WET, OddBook, field_of, some_book, some_fields, standing_of
from waterbyturns.books import AskingBook, DaysBook, DriestBook, RankBook
from waterbyturns.compare import alike, better_at, difference, faults, never_worse, right
from waterbyturns.errors import BadStanding, Unlike
from waterbyturns.field import Field, Standing
from waterbyturns.judged import Judged
from waterbyturns.safe import Safe

PICK = random.Random(12)
CASES = [(field, book, some_book(PICK, field)) for field, book in HARMED]
CASES += [(field, some_book(PICK, field), some_book(PICK, field)) for field in some_fields(120, 8)]


def faults_by_words(field, book):
    """Point 47: a book's turn that is not good at a safe standing."""
    safe = Safe(field)
    return [(place, row) for place in range(book.period) for row in field.standings()
            if safe.keeps(row) and book(field, row, place) not in safe.turns(row)]


def difference_by_words(field, one, two, standing):
    """Point 49: run after run, the short ones first and each length in the order of the days."""
    runs, seen, day = [([], standing)], set(), 0
    while runs:
        for days, present in runs:
            if one(field, present, day) != two(field, present, day):
                return days
        fresh = []
        for days, present in runs:
            for place, arrival in enumerate(field.moves(present, one(field, present, day))):
                key = ((day + 1) % (one.period * two.period), str(arrival))
                if arrival is not None and key not in seen:
                    seen.add(key)
                    fresh.append((days + [place], arrival))
        runs, day = fresh, day + 1
    return None


class FaultsTest(unittest.TestCase):
    def test_faults(self):
        for field, one, two in CASES:
            safe = Safe(field)
            for book in [one, two]:
                judged, expected = Judged(field, book), faults_by_words(field, book)
                self.assertEqual(faults(safe, judged), expected)
                self.assertIs(right(safe, judged), expected == [])
                self.assertTrue(all(isinstance(pair, tuple) for pair in faults(safe, judged)))

    def test_a_right_book_keeps_every_safe_standing(self):
        found = set()
        for field, one, two in CASES:
            safe = Safe(field)
            for book in [one, two]:
                judged = Judged(field, book)
                whole = all(judged.keeps(row, day=day) for day in range(book.period) for row in field.standings()
                            if safe.keeps(row))
                self.assertIs(right(safe, judged), whole)
                found.add((whole, safe.longest() > 0))
        self.assertGreaterEqual(found, {(True, True), (False, True), (True, False)})

    def test_faults_that_are_told_by_hand(self):
        safe = Safe(EASY)
        self.assertEqual(faults(safe, Judged(EASY, DaysBook(["a"], []))),
                         [(1, standing_of("0: 0 / 1")), (1, standing_of("0: 0 / 2"))])
        self.assertEqual(faults(safe, Judged(EASY, RankBook("a"))), [])
        self.assertEqual(faults(safe, Judged(EASY, RankBook())),
                         [(0, standing_of("0: 0 / 1")), (0, standing_of("0: 0 / 2"))])

    def test_fields_without_safe_or_lost_standings(self):
        for book in [RankBook(), DaysBook(["a"], ["b"])]:
            for field in [WET, DRY]:
                self.assertEqual(faults(Safe(field), Judged(field, book)), [])
                self.assertIs(right(Safe(field), Judged(field, book)), True)


class BetterTest(unittest.TestCase):
    def test_better_at_and_never_worse(self):
        found = set()
        for field, one, two in CASES:
            for first, second in itertools.product([Judged(field, one), Judged(field, two)], repeat=2):
                rows = [row for row in field.standings() if second.keeps(row) and not first.keeps(row)]
                self.assertEqual(better_at(first, second), rows[0] if rows else None)
                self.assertIs(never_worse(first, second), not rows)
                found.add((bool(rows), bool(second.kept()), first.kept() == second.kept()))
        self.assertGreaterEqual(found, {(True, True, False), (False, True, False), (False, True, True)})

    def test_only_day_0_counts(self):
        first, second = Judged(EASY, DaysBook(["a"], [])), Judged(EASY, DaysBook([], ["a"]))
        self.assertEqual(better_at(first, second), None)
        self.assertEqual(better_at(second, first), standing_of("0: 0 / 2"))
        self.assertIs(never_worse(first, second), True)
        self.assertIs(never_worse(second, first), False)


class DifferenceTest(unittest.TestCase):
    def test_differences(self):
        lengths = set()
        for field, one, two in CASES:
            first, second = Judged(field, one), Judged(field, two)
            found = []
            for row in field.standings():
                days = difference(first, second, row)
                self.assertEqual(days, difference_by_words(field, one, two, row))
                found.append(days)
                lengths.add(None if days is None else len(days))
            self.assertIs(alike(first, second), found == [None] * field.size)
        self.assertGreaterEqual(lengths, {None, 0, 1, 2})

    def test_books_that_differ_late(self):
        field = field_of([("a", 8, 1)], [["a"]], 0, [([0], [1], 0, 0), ([1], [0], 0, 0), ([0], [2], 0, 0)])
        first, second = Judged(field, AskingBook(("a", 5))), Judged(field, AskingBook(("a", 7)))
        self.assertEqual([difference(first, second, standing_of(f"0: {level} / 0")) for level in range(9)],
                         [[2, 2, 2], [0, 2, 2], [2, 2], [0, 2], [2], [0], [], [], [1]])
        self.assertIs(alike(first, second), False)

    def test_the_day_number_counts_beyond_both_periods(self):
        field = field_of([("a", 1, 1)], [["a"]], 0, [([0], [0], 0, 0)])
        empty = [[]] * 11
        first, second = DaysBook(*empty, ["a"]), DaysBook([], [], [], [], ["a"])
        standing = standing_of("0: 0 / 0")
        self.assertEqual(difference(Judged(field, first), Judged(field, second), standing), [0] * 4)
        first, second = OddBook(2), DaysBook([], ["a"], [], ["a"], [], ["a"], [])
        self.assertEqual(difference(Judged(field, first), Judged(field, second), standing), [0] * 7)
        self.assertIsNone(difference(Judged(field, first), Judged(field, DaysBook([], ["a"])), standing))

    def test_runs_end_when_a_plot_dries_out(self):
        # The books differ only where the level is 0, and no run comes there before it ends.
        field = field_of([("a", 4, 1)], [["a"]], 0, [([3], [0], 0, 0), ([0], [1], 0, 0)])
        first, second = Judged(field, AskingBook(("a", 0))), Judged(field, RankBook())
        self.assertEqual([difference(first, second, standing_of(f"0: {level} / 0")) for level in range(5)],
                         [[], [1, 1, 0], [1, 0], [0], [0, 1, 1, 0]])
        field = field_of([("a", 3, 1)], [["a"]], 0, [([2], [0], 0, 0), ([0], [2], 0, 0)])
        first, second = Judged(field, AskingBook(("a", 0))), Judged(field, RankBook())
        self.assertIsNone(difference(first, second, standing_of("0: 1 / 0")))

    def test_equal_and_other_books(self):
        for field, one, two in CASES[:40]:
            self.assertIs(alike(Judged(field, one), Judged(field, one)), True)
            self.assertEqual(alike(Judged(field, one), Judged(field, two)), alike(Judged(field, two), Judged(field, one)))
        self.assertIs(alike(Judged(EASY, RankBook("a")), Judged(EASY, DriestBook("a"))), True)
        self.assertIs(alike(Judged(TIGHT, RankBook("a", "b")), Judged(TIGHT, DriestBook("a", "b"))), False)

    def test_returned_lists_are_new(self):
        field, one, two = HARMED[2][0], DaysBook(["a"], ["b"]), DaysBook(["a"], ["a"])
        first, second, safe = Judged(field, one), Judged(field, two), Safe(field)
        row = standing_of("0: 2 4 / 2")
        self.assertEqual(difference(first, second, row), [0])
        difference(first, second, row).clear()
        count = len(faults(safe, first))
        self.assertGreater(count, 0)
        faults(safe, first).clear()
        self.assertEqual((difference(first, second, row), len(faults(safe, first))), ([0], count))


class CompareErrorsTest(unittest.TestCase):
    def test_other_fields(self):
        safe, judged = Safe(EASY), Judged(EASY, RankBook("a"))
        others = [TIGHT, field_of([("a", 3, 2)], [["a"]], 1, [([1], [0], 1, 0)]),
                  field_of([("a", 3, 2)], [["a"]], 2, [([1], [0], 2, 0)]),
                  field_of([("a", 3, 2)], [], 2, [([1], [0], 1, 0)]),
                  field_of([("a", 3, 1)], [["a"]], 2, [([1], [0], 1, 0)])]
        for other in others:
            strange = Judged(other, RankBook("a"))
            for call, values in [(faults, (safe, strange)), (right, (safe, strange)), (faults, (Safe(other), judged)),
                                 (right, (Safe(other), judged)), (never_worse, (judged, strange)),
                                 (better_at, (strange, judged)), (alike, (judged, strange)),
                                 (difference, (judged, strange, Standing([0, 0, 0], 0, 0))),
                                 (difference, (strange, judged, standing_of("0: 0 / 0")))]:
                self.assertEqual(error_of(call, *values), raised(Unlike))

    def test_equal_fields_that_are_not_the_same_object(self):
        other = Field(EASY.ground, EASY.weather)
        judged = Judged(other, RankBook("a"))
        self.assertEqual(faults(Safe(EASY), judged), [])
        self.assertIs(alike(judged, Judged(EASY, DriestBook("a"))), True)

    def test_standings_that_do_not_fit(self):
        judged = Judged(TIGHT, RankBook("a"))
        for standing in [Standing([1], 1, 0), Standing([1, 4], 1, 0), Standing([1, 1], 4, 0), Standing([1, 1], 1, 1)]:
            found, attributes = error_of(difference, judged, judged, standing)
            self.assertIs(found, BadStanding)
            self.assertIs(attributes["standing"], standing)


if __name__ == "__main__":
    unittest.main()
