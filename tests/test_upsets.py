"""Points 26 and 27: sets of standings, and what point 2 says of them."""

import itertools
import unittest

from helper import error_of, raised
from waterbyturns.errors import BadStanding
from waterbyturns.field import Field, Standing
from waterbyturns.ground import Gates, Ground, Plot
from waterbyturns.upsets import UpSet
from waterbyturns.weather import Day, Weather


def field_of(holds, tank, moods):
    plots = [Plot("abcd"[place], hold, 1) for place, hold in enumerate(holds)]
    none = [0] * len(holds)
    return Field(Ground(plots, Gates(), tank), Weather(*[[Day(none, none, 0, 0)]] * moods))


def order(standing):
    """The order of point 21."""
    return standing.mood, standing.levels, standing.tank


def least_by_words(standings):
    """Point 26, word by word."""
    least = []
    for standing in standings:
        if not any(other <= standing and other != standing for other in standings) and standing not in least:
            least.append(standing)
    return tuple(sorted(least, key=order))


SMALL = list(field_of([2, 1], 1, 2).standings())


def some_lists():
    """Lists of up to three standings of the small field, in every order of which some are left out."""
    rows = [list(row) for size in range(3) for row in itertools.product(SMALL, repeat=size)]
    return rows + [list(row) for row in itertools.product(SMALL[::5], SMALL[1::3], SMALL[2::4])]


def some_sets():
    return [UpSet(row) for row in some_lists()[::23]]


def held(upset):
    """Which standings of the small field are in the set."""
    return [standing in upset for standing in SMALL]


class LeastTest(unittest.TestCase):
    def test_least_standings(self):
        for row in some_lists():
            upset = UpSet(row)
            self.assertEqual(upset.least, least_by_words(row))
            self.assertEqual(len(upset), len(upset.least))

    def test_the_empty_list(self):
        self.assertEqual(UpSet([]).least, ())
        self.assertEqual(len(UpSet([])), 0)

    def test_equal_ones_occur_once_and_the_order_is_ascending(self):
        rows = [Standing([0, 3], 1, 1), Standing([3, 0], 0, 0), Standing([0, 3], 0, 0), Standing([3, 0], 0, 0),
                Standing([1, 1], 1, 0), Standing([1, 1], 0, 1), Standing([0, 3], 1, 1), Standing([1, 3], 8, 0)]
        for row in [rows, rows[::-1], rows[3:] + rows[:3]]:
            self.assertEqual([str(standing) for standing in UpSet(row).least],
                             ["0: 0 3 / 0", "0: 1 1 / 1", "0: 3 0 / 0", "1: 0 3 / 1", "1: 1 1 / 0"])

    def test_the_extreme_numbers(self):
        least, most = Standing([0, 0, 0, 0], 0, 3), Standing([8, 8, 8, 8], 8, 3)
        self.assertEqual(UpSet([most, least]).least, (least,))
        self.assertEqual(UpSet([most]).least, (most,))
        self.assertFalse(Standing([8, 8, 8, 8], 7, 3) in UpSet([most]))
        self.assertFalse(Standing([7, 8, 8, 8], 8, 3) in UpSet([most]))
        self.assertTrue(most in UpSet([least]))
        for mood, other in itertools.product(range(4), repeat=2):
            self.assertIs(Standing([8], 8, mood) in UpSet([Standing([0], 0, other)]), mood == other)

    def test_many_standings(self):
        field = field_of([4, 4, 4, 7], 5, 1)
        standings = list(field.standings())
        self.assertEqual(len(standings), 6000)
        self.assertEqual(UpSet(standings).least, (standings[0],))
        level = [standing for standing in standings if sum(standing.levels) + standing.tank == 12]
        above = [standing for standing in standings if sum(standing.levels) + standing.tank >= 12]
        self.assertEqual(UpSet(above[::-1]).least, tuple(level))
        self.assertEqual(UpSet(level).count_in(field), len(above))
        self.assertTrue(UpSet(level) == UpSet(above))

    def test_different_numbers_of_plots(self):
        one, two, three = Standing([0], 0, 0), Standing([0, 0], 0, 0), Standing([0, 0, 0], 0, 0)
        for row, wrong in [([one, two], two), ([one, one, three, two], three), ([two, two, one], one)]:
            kind, attributes = error_of(UpSet, row)
            self.assertIs(kind, BadStanding)
            self.assertIs(attributes["standing"], wrong)
        self.assertEqual(error_of(UpSet, [one, two]), raised(BadStanding, standing=two))

    def test_the_passed_list_is_copied_and_not_changed(self):
        row = [Standing([1], 1, 0), Standing([0], 0, 0)]
        upset = UpSet(row)
        self.assertEqual(row, [Standing([1], 1, 0), Standing([0], 0, 0)])
        row.clear()
        self.assertEqual(upset.least, (Standing([0], 0, 0),))
        self.assertTrue(Standing([0], 0, 0) in upset)


class OperatorsTest(unittest.TestCase):
    def test_in(self):
        for row in some_lists()[::7]:
            upset = UpSet(row)
            for standing in SMALL:
                self.assertIs(standing in upset, any(low <= standing for low in row))

    def test_in_for_another_number_of_plots(self):
        upset = UpSet([Standing([0, 0], 0, 0)])
        for levels in [[0], [8], [0, 0, 0], [8, 8, 8, 8]]:
            self.assertIs(Standing(levels, 8, 0) in upset, False)
            self.assertIs(Standing(levels, 8, 0) in UpSet([]), False)

    def test_comparisons(self):
        for one, two in itertools.product(some_sets(), repeat=2):
            pairs = list(zip(held(one), held(two)))
            self.assertIs(one <= two, all(second for first, second in pairs if first))
            self.assertIs(one == two, held(one) == held(two))
            self.assertIs(one != two, held(one) != held(two))

    def test_the_empty_set_and_the_others(self):
        none, some = UpSet([]), UpSet([Standing([8, 8], 8, 3)])
        self.assertIs(none <= none, True)
        self.assertIs(none <= some, True)
        self.assertIs(some <= none, False)
        self.assertIs(none == UpSet([]), True)
        self.assertIs(none == some, False)
        self.assertFalse(none == ())
        for one, two in [(none, some), (some, none)]:
            self.assertTrue((one | two) == some)
            self.assertTrue((one & two) == none)

    def test_union_and_intersection(self):
        for one, two in itertools.product(some_sets(), repeat=2):
            both = list(zip(held(one), held(two)))
            self.assertEqual(held(one | two), [first or second for first, second in both])
            self.assertEqual(held(one & two), [first and second for first, second in both])

    def test_what_they_return_has_its_least_standings_in_order(self):
        for one, two in itertools.product(some_sets()[::2], repeat=2):
            for upset in [one | two, one & two]:
                self.assertEqual(upset.least, least_by_words([low for low in SMALL if low in upset]))

    def test_least_standings_that_are_new(self):
        one = UpSet([Standing([2, 0], 0, 0), Standing([0, 1], 0, 0), Standing([0, 0], 0, 1)])
        two = UpSet([Standing([1, 0], 1, 0), Standing([0, 2], 0, 0)])
        self.assertEqual([str(low) for low in (one & two).least], ["0: 0 2 / 0", "0: 1 1 / 1", "0: 2 0 / 1"])
        self.assertEqual([str(low) for low in (one | two).least],
                         ["0: 0 1 / 0", "0: 1 0 / 1", "0: 2 0 / 0", "1: 0 0 / 0"])
        self.assertEqual(len(one), 3)
        self.assertEqual(len(two), 2)


class CountTest(unittest.TestCase):
    def test_the_standings_of_the_field(self):
        for holds, tank, moods in [([2, 1], 1, 2), ([1, 2], 0, 1), ([3, 3], 2, 3)]:
            field = field_of(holds, tank, moods)
            for upset in some_sets():
                expected = len([1 for standing in field.standings() if standing in upset])
                self.assertEqual(upset.count_in(field), expected)

    def test_known_numbers(self):
        field = field_of([3, 2], 4, 2)
        self.assertEqual(UpSet([]).count_in(field), 0)
        self.assertEqual(UpSet([Standing([0, 0], 0, 1)]).count_in(field), 60)
        self.assertEqual(UpSet([Standing([3, 2], 4, 0)]).count_in(field), 1)
        self.assertEqual(UpSet([Standing([3, 2], 0, 0), Standing([0, 2], 4, 0)]).count_in(field), 8)

    def test_least_standings_that_do_not_fit_the_field(self):
        field = field_of([3, 2], 4, 2)
        for levels, tank, mood in [([4, 0], 0, 0), ([0, 3], 0, 0), ([0, 0], 5, 0), ([0, 0], 0, 2), ([0], 0, 0),
                                   ([0, 0, 0], 0, 0)]:
            self.assertEqual(UpSet([Standing(levels, tank, mood)]).count_in(field), 0)


if __name__ == "__main__":
    unittest.main()
