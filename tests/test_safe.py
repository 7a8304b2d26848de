"""Points 31 to 33: safe and lost standings, and what points 2 and 20 say of them."""

import itertools
import unittest

from helper import error_of, raised
from samples import DRY, EASY, TIGHT, WET, field_of, ranks_by_words, some_fields, standing_of, texts
from waterbyturns.errors import BadStanding, NotSafe
from waterbyturns.field import Field, Standing
from waterbyturns.ground import Gates, Ground, Plot
from waterbyturns.safe import Safe
from waterbyturns.upsets import UpSet
from waterbyturns.weather import Weather

FIELDS = [EASY, TIGHT, WET, DRY] + some_fields(150)
WRONG = [Standing([0], 0, 0), Standing([0, 0, 0], 0, 0), Standing([4, 0], 0, 0), Standing([0, 4], 0, 0),
         Standing([3, 3], 4, 0), Standing([0, 0], 0, 1), Standing([8, 8], 8, 3)]


def good_turns_by_words(field, safe_texts, standing):
    """Point 31: no day dries out a plot, and every day leads to a safe standing."""
    return [turn for turn in field.ground.turns()
            if all(arrival is not None and str(arrival) in safe_texts for arrival in field.moves(standing, turn))]


class SafeTest(unittest.TestCase):
    def test_the_samples_have_all_kinds_of_fields(self):
        kinds = set()
        for field in FIELDS:
            found = {rank == 0 for rank in ranks_by_words(field).values()}
            kinds.add(tuple(sorted(found)))
        self.assertEqual(kinds, {(True,), (False,), (False, True)})

    def test_ranks_and_safe_standings(self):
        for field in FIELDS:
            safe, found = Safe(field), ranks_by_words(field)
            for standing in field.standings():
                self.assertEqual(safe.rank(standing), found[str(standing)])
                self.assertIs(safe.keeps(standing), found[str(standing)] == 0)
            self.assertEqual(safe.longest(), max(found.values()))

    def test_good_turns(self):
        for field in FIELDS:
            safe, found = Safe(field), ranks_by_words(field)
            kept = {text for text, rank in found.items() if rank == 0}
            for standing in field.standings():
                turns = good_turns_by_words(field, kept, standing)
                self.assertEqual(safe.turns(standing), turns)
                self.assertEqual(safe.keeps(standing), turns != [])
                if turns:
                    self.assertEqual(safe.first_turn(standing), turns[0])
                else:
                    self.assertEqual(error_of(safe.first_turn, standing), raised(NotSafe, standing=standing))

    def test_the_attributes(self):
        for field in FIELDS:
            safe = Safe(field)
            self.assertTrue(safe.field == field)
            self.assertTrue(safe.least == UpSet([row for row in field.standings() if safe.keeps(row)]))
            self.assertEqual(safe.least.count_in(field), sum(safe.keeps(row) for row in field.standings()))

    def test_a_field_that_is_told_by_hand(self):
        safe = Safe(TIGHT)
        self.assertEqual(texts(safe.least.least), ["0: 0 1 / 2", "0: 0 2 / 1", "0: 1 0 / 2", "0: 1 1 / 1",
                                                   "0: 1 2 / 0", "0: 2 0 / 1", "0: 2 1 / 0"])
        self.assertEqual(safe.turns(standing_of("0: 3 3 / 3")), [(), ("a",), ("b",)])
        self.assertEqual(safe.turns(standing_of("0: 1 2 / 0")), [(), ("a",), ("b",)])
        self.assertEqual(safe.turns(standing_of("0: 0 1 / 2")), [("a",)])
        self.assertEqual(safe.turns(standing_of("0: 1 1 / 0")), [])
        self.assertEqual(safe.first_turn(standing_of("0: 1 0 / 2")), ("b",))
        self.assertEqual(safe.rank(standing_of("0: 1 1 / 0")), 2)
        self.assertEqual(safe.rank(standing_of("0: 0 0 / 3")), 1)
        self.assertEqual(safe.longest(), 2)
        self.assertEqual(Safe(DRY).longest(), 5)
        self.assertEqual(Safe(WET).longest(), 0)

    def test_all_days_of_the_mood_count(self):
        dry, wet = ([2], [0], 0, 0), ([0], [2], 0, 0)
        for days, rank in [([wet], 0), ([dry, wet], 2), ([wet, dry], 2), ([wet, wet, dry], 2)]:
            safe = Safe(field_of([("a", 2, 1)], [], 0, days))
            self.assertEqual(safe.rank(Standing([2], 0, 0)), rank)
            self.assertEqual(safe.rank(Standing([1], 0, 0)), 1 if rank else 0)

    def test_no_safe_and_no_lost_standing(self):
        none, every = Safe(DRY), Safe(WET)
        self.assertEqual(none.least.least, ())
        self.assertEqual(texts(every.least.least), ["0: 0 0 / 0"])
        for standing in DRY.standings():
            self.assertEqual(none.turns(standing), [])
        for standing in WET.standings():
            self.assertEqual(every.turns(standing), WET.ground.turns())


class FullerTest(unittest.TestCase):
    def test_fuller_is_never_worse(self):
        for field in FIELDS:
            safe = Safe(field)
            rows = [(row, safe.rank(row), safe.turns(row)) for row in field.standings()]
            for (low, rank, turns), (high, later, more) in itertools.product(rows, repeat=2):
                if low <= high and rank == 0:
                    self.assertEqual(later, 0)
                    self.assertLessEqual(set(turns), set(more))
                elif low <= high and later > 0:
                    self.assertLessEqual(rank, later)

    def test_lean_weather_changes_nothing(self):
        leaner = 0
        for field in FIELDS:
            other = Field(field.ground, field.weather.lean())
            leaner += other != field
            one, two = Safe(field), Safe(other)
            self.assertTrue(one.least == two.least)
            self.assertEqual([one.rank(row) for row in field.standings()], [two.rank(row) for row in field.standings()])
        self.assertGreater(leaner, 10)


class SafeErrorsTest(unittest.TestCase):
    def test_standings_that_do_not_fit(self):
        safe = Safe(TIGHT)
        for standing in WRONG:
            for call in [safe.keeps, safe.turns, safe.first_turn, safe.rank]:
                kind, attributes = error_of(call, standing)
                self.assertIs(kind, BadStanding)
                self.assertIs(attributes["standing"], standing)

    def test_not_safe_tells_the_standing(self):
        standing = standing_of("0: 0 0 / 0")
        kind, attributes = error_of(Safe(TIGHT).first_turn, standing)
        self.assertIs(kind, NotSafe)
        self.assertIs(attributes["standing"], standing)

    def test_the_largest_fields(self):
        plots = [("a", 4, 2), ("b", 4, 2), ("c", 4, 2), ("d", 7, 3)]
        days = [([1, 1, 0, 1], [0, 1, 0, 0], 3, 0), ([0, 1, 1, 0], [0, 0, 1, 2], 2, 0)]
        field = field_of(plots, [["a", "b", "c", "d"]], 5, days * 3)
        self.assertEqual(field.size, 6000)
        safe = Safe(field)
        kept = [row for row in field.standings() if safe.keeps(row)]
        self.assertTrue(0 < len(kept) < 6000)
        self.assertEqual(safe.least.count_in(field), len(kept))
        for row in list(field.standings())[::97]:
            self.assertEqual(safe.turns(row), [turn for turn in field.ground.turns() if all(
                arrival is not None and safe.keeps(arrival) for arrival in field.moves(row, turn))])


class CopiesTest(unittest.TestCase):
    def test_returned_lists_are_new(self):
        safe, standing = Safe(TIGHT), standing_of("0: 3 3 / 3")
        safe.turns(standing).clear()
        self.assertEqual(safe.turns(standing), [(), ("a",), ("b",)])
        self.assertEqual(safe.first_turn(standing), ())

    def test_nothing_is_changed_and_the_ground_may_be_resized_later(self):
        ground = Ground([Plot("a", 3, 2)], Gates(["a"]), 2)
        field = Field(ground, Weather.steady([1], [0], 1))
        safe = Safe(field)
        ground.resize(0)
        self.assertTrue(field == EASY)
        self.assertEqual(safe.rank(Standing([0], 2, 0)), 0)
        self.assertEqual(error_of(safe.rank, Standing([0], 3, 0)), raised(BadStanding, standing=Standing([0], 3, 0)))


if __name__ == "__main__":
    unittest.main()
