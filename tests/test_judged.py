"""Points 44 to 46: judged books, and what points 2 and 20 say of them."""

import itertools
import random
import unittest

from helper import OTHER_VALUES, error_of, raised
from samples import EASY, HARMED, TIGHT, WET, OddBook, field_of, some_book, some_fields, standing_of, texts
from waterbyturns.books import AskingBook, DaysBook, DriestBook, RankBook
from waterbyturns.errors import BadName, BadNumber, BadStanding, BadTurn, TooMany
from waterbyturns.field import Standing
from waterbyturns.judged import Judged
from waterbyturns.safe import Safe

PICK = random.Random(11)
# With these books the harm also depends on the day.
CASES = HARMED + [(field, DaysBook([], [], [], ["a"]) | book) for field, book in HARMED]
CASES += [(field, some_book(PICK, field)) for field in some_fields(160, 7)]


def moves_by_words(field, book, standing, day):
    return field.moves(standing, book(field, standing, day))


def ranks_by_words(field, book):
    """Point 44: for each place and standing (as a text) the days of the shortest run that dries out a plot, or 0."""
    moves = {(place, str(row)): moves_by_words(field, book, row, place)
             for place in range(book.period) for row in field.standings()}
    found = {}
    for days in itertools.count(1):
        fresh = [(place, text) for place, text in moves if (place, text) not in found and
                 any(arrival is None or ((place + 1) % book.period, str(arrival)) in found
                     for arrival in moves[place, text])]
        if not fresh:
            return {key: found.get(key, 0) for key in moves}
        found.update({key: days for key in fresh})


def drying_by_words(field, book, standing, day, length):
    """The first list of so many days that dries out a plot on the last one."""
    counts = max(len(days) for days in field.weather.moods)
    for days in itertools.product(range(counts), repeat=length):
        present = standing
        for place, chosen in enumerate(days):
            moves = moves_by_words(field, book, present, day + place)
            if chosen >= len(moves):
                break
            present = moves[chosen]
            if present is None:
                break
        if present is None and place == length - 1:
            return list(days)


def fuller_by_words(field, standing):
    """One unit more in one plot or in the tank, in the order of point 45."""
    for place in range(len(standing.levels) + 1):
        levels, tank = list(standing.levels), standing.tank
        if place < len(levels):
            levels[place] += 1
        else:
            tank += 1
        if max(levels) <= 8 and tank <= 8 and field.fits(Standing(levels, tank, standing.mood)):
            yield Standing(levels, tank, standing.mood)


class JudgedTest(unittest.TestCase):
    def test_kept_standings_and_ranks(self):
        kinds = set()
        for field, book in CASES:
            judged, found = Judged(field, book), ranks_by_words(field, book)
            for (place, text), rank in found.items():
                for day in [place, place + book.period, place + 7 * book.period]:
                    self.assertEqual(judged.rank(standing_of(text), day=day), rank)
                    self.assertIs(judged.keeps(standing_of(text), day=day), rank == 0)
            for day in range(2 * book.period):
                kept = [row for row in field.standings() if found[day % book.period, str(row)] == 0]
                self.assertEqual(judged.kept(day=day), kept)
                kinds.add((len(kept) == 0, len(kept) == field.size))
            self.assertEqual(judged.kept(), judged.kept(day=0))
        self.assertEqual(kinds, {(True, False), (False, True), (False, False)})

    def test_day_0_is_meant_if_no_day_is_passed(self):
        moved = set()
        for field, book in CASES:
            judged = Judged(field, book)
            self.assertEqual(judged.harm(), judged.harm(day=0))
            self.assertEqual(judged.watering_harm(), judged.watering_harm(day=0))
            moved |= {("harm", judged.harm() == judged.harm(day=1)),
                      ("water", judged.watering_harm() == judged.watering_harm(day=1))}
            for row in list(field.standings())[::5]:
                self.assertEqual((judged.keeps(row), judged.rank(row), judged.drying(row)),
                                 (judged.keeps(row, day=0), judged.rank(row, day=0), judged.drying(row, day=0)))
        self.assertGreaterEqual(moved, {("harm", False), ("water", False)})

    def test_drying_runs(self):
        lengths = set()
        for field, book in CASES:
            judged = Judged(field, book)
            for row in list(field.standings())[::3]:
                for day in range(book.period):
                    days, rank = judged.drying(row, day=day), judged.rank(row, day=day)
                    if rank == 0:
                        self.assertIsNone(days)
                    else:
                        self.assertEqual(len(days), rank)
                        if rank <= 5:
                            self.assertEqual(days, drying_by_words(field, book, row, day, rank))
                            lengths.add(rank)
                    self.assertEqual(judged.drying(row, day=day + book.period), days)
        self.assertGreaterEqual(lengths, {1, 2, 3, 4})

    def test_the_first_of_the_shortest_runs(self):
        # Day 0 wets, day 1 dries one unit, day 2 dries two.
        field = field_of([("a", 5, 1)], [], 0, [([0], [2], 0, 0), ([1], [0], 0, 0), ([2], [0], 0, 0)])
        judged = Judged(field, DriestBook())
        self.assertEqual([judged.drying(standing_of(f"0: {level} / 0")) for level in range(6)],
                         [[1], [2], [1, 2], [2, 2], [1, 2, 2], [2, 2, 2]])

    def test_the_day_moves_the_turn(self):
        judged = Judged(EASY, DaysBook(["a"], []))
        self.assertEqual([judged.rank(standing_of("0: 0 / 2"), day=day) for day in range(4)], [0, 1, 0, 1])
        self.assertEqual([judged.rank(standing_of("0: 1 / 0"), day=day) for day in range(4)], [2, 3, 2, 3])
        self.assertEqual(texts(judged.kept(day=2))[:3], ["0: 0 / 2", "0: 1 / 1", "0: 1 / 2"])
        self.assertEqual(texts(judged.kept(day=3))[:3], ["0: 1 / 1", "0: 1 / 2", "0: 2 / 0"])

    def test_the_attributes(self):
        book = RankBook("a")
        judged = Judged(EASY, book)
        self.assertIs(judged.book, book)
        self.assertTrue(judged.field == EASY)

    def test_books_that_this_program_did_not_make(self):
        judged = Judged(EASY, OddBook())
        found = ranks_by_words(EASY, OddBook())
        self.assertEqual({(day, str(row)): judged.rank(row, day=day) for day in range(2) for row in EASY.standings()},
                         found)
        self.assertEqual(sorted(set(found.values())), [0, 1, 2, 3])


class KeptTest(unittest.TestCase):
    def test_kept_standings_are_safe(self):
        for field, book in CASES:
            safe, judged = Safe(field), Judged(field, book)
            for day in range(book.period):
                self.assertTrue(all(safe.keeps(row) for row in judged.kept(day=day)))

    def test_days_books_keep_fuller_standings(self):
        many = 0
        for field, book in CASES:
            if isinstance(book, DaysBook):
                judged = Judged(field, book)
                for day in range(book.period):
                    self.assertIsNone(judged.harm(day=day))
                    kept = judged.kept(day=day)
                    many += len(kept)
                    for one, two in itertools.product(kept[:20], field.standings()):
                        if one <= two:
                            self.assertTrue(judged.keeps(two, day=day))
        self.assertGreater(many, 100)

    def test_harm(self):
        found = set()
        for field, book in CASES:
            judged = Judged(field, book)
            for day in range(book.period):
                pairs = [(row, fuller) for row in judged.kept(day=day) for fuller in fuller_by_words(field, row)
                         if not judged.keeps(fuller, day=day)]
                harm = judged.harm(day=day)
                self.assertEqual(harm, pairs[0] if pairs else None)
                closed = all(judged.keeps(two, day=day) for one in judged.kept(day=day) for two in field.standings()
                             if one <= two)
                self.assertIs(harm is None, closed)
                found.add(harm is None)
                if harm is not None:
                    self.assertIsInstance(harm, tuple)
        self.assertEqual(found, {True, False})

    def test_harm_that_is_told_by_hand(self):
        expected = [("0: 0 1 / 2", "0: 1 1 / 2"), ("0: 0 2 / 2", "0: 1 2 / 2"), ("1: 0 0 / 2", "1: 1 0 / 2"),
                    ("1: 1 0 / 2", "1: 1 1 / 2")]
        for (field, book), pair in zip(HARMED, expected):
            self.assertEqual(Judged(field, book).harm(), tuple(standing_of(text) for text in pair))

    def test_watering_harm(self):
        found = set()
        for field, book in CASES:
            judged = Judged(field, book)
            for day in range(book.period):
                pairs = [(row, turn) for row in judged.kept(day=day) for turn in field.ground.turns()
                         if not judged.keeps(field.watered(row, turn), day=day)]
                harm = judged.watering_harm(day=day)
                self.assertEqual(harm, pairs[0] if pairs else None)
                found.add(harm is None)
        self.assertEqual(found, {True, False})
        field, book = HARMED[0]
        self.assertEqual(Judged(field, book).watering_harm(), (standing_of("0: 1 0 / 2"), ("a",)))
        self.assertIsNone(Judged(WET, RankBook("a")).watering_harm())


class JudgedErrorsTest(unittest.TestCase):
    def test_the_book_is_checked_first(self):
        field = field_of([("a", 4, 1), ("b", 4, 1), ("c", 4, 1), ("d", 7, 1)], [["a"]], 5,
                         [([0, 0, 0, 0], [0, 0, 0, 0], 0, 0)])
        self.assertEqual(field.size, 6000)
        self.assertEqual(error_of(Judged, field, DaysBook(*[["x"]] * 3)), raised(BadName, name="x"))
        self.assertEqual(error_of(Judged, field, DaysBook([], [], [], ["b"])), raised(BadTurn, turn=("b",)))
        self.assertEqual(error_of(Judged, field, DaysBook([], [], ["a"])), raised(TooMany, limit=12000))
        judged = Judged(field, DaysBook(["a"], []))
        self.assertEqual(len(judged.kept(day=1)), 6000)
        self.assertEqual(error_of(Judged, EASY, AskingBook(("b", 1))), raised(BadName, name="b"))

    def test_sizes_near_the_limit(self):
        still = ([0, 0, 0], [0, 0, 0], 0, 0)
        plots = [("a", 6, 1), ("b", 6, 1), ("c", 6, 1)]
        for tank, period, too_many in [(6, 4, False), (6, 5, True), (4, 7, True), (4, 6, False)]:
            field = field_of(plots, [], tank, [still])
            book = DaysBook(*[[]] * period)
            self.assertEqual(field.size * period > 12000, too_many)
            self.assertEqual(error_of(Judged, field, book), raised(TooMany, limit=12000) if too_many else None)
        field = field_of([("a", 4, 1), ("b", 4, 1), ("c", 7, 1)], [["a"]], 0, [still])
        self.assertEqual(field.size, 200)
        self.assertEqual(len(Judged(field, OddBook(60)).kept(day=59)), 200)
        self.assertEqual(error_of(Judged, field, OddBook(61)), raised(TooMany, limit=12000))

    def test_standings_then_days(self):
        judged = Judged(TIGHT, DaysBook(["a"], ["b"]))
        fits = standing_of("0: 1 1 / 1")
        for standing in [Standing([1], 1, 0), Standing([1, 4], 1, 0), Standing([1, 1], 4, 0), Standing([1, 1], 1, 1)]:
            for call in [judged.keeps, judged.rank, judged.drying]:
                for day in [0, -1]:
                    found, attributes = error_of(lambda: call(standing, day=day))
                    self.assertIs(found, BadStanding)
                    self.assertIs(attributes["standing"], standing)
        for day in [-1, -10 ** 9] + OTHER_VALUES:
            for call in [judged.kept, judged.harm, judged.watering_harm, lambda day: judged.keeps(fits, day=day),
                         lambda day: judged.rank(fits, day=day), lambda day: judged.drying(fits, day=day)]:
                found, attributes = error_of(lambda: call(day=day))
                self.assertIs(found, BadNumber)
                self.assertEqual(attributes["what"], "day")
                self.assertIs(attributes["value"], day)
        self.assertEqual(judged.rank(fits, day=2 * 10 ** 30 + 1), judged.rank(fits, day=1))

    def test_the_day_is_passed_by_keyword(self):
        judged, fits = Judged(TIGHT, DaysBook(["a"], ["b"])), standing_of("0: 1 1 / 1")
        for call, values in [(judged.keeps, [fits, 1]), (judged.kept, [1]), (judged.rank, [fits, 1]),
                             (judged.drying, [fits, 1]), (judged.harm, [1]), (judged.watering_harm, [1])]:
            with self.assertRaises(TypeError):
                call(*values)


class CopiesTest(unittest.TestCase):
    def test_returned_lists_are_new(self):
        judged = Judged(TIGHT, RankBook("a", "b"))
        lost = standing_of("0: 1 1 / 0")
        kept, days = judged.kept(), judged.drying(lost)
        self.assertTrue(days)
        judged.kept().clear()
        judged.drying(lost).clear()
        self.assertEqual((judged.kept(), judged.drying(lost)), (kept, days))


if __name__ == "__main__":
    unittest.main()
