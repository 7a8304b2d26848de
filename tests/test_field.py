"""Points 19 to 25: standings and fields, and what points 2 and 3 say of them."""

import itertools
import unittest

from helper import OTHER_VALUES, error_of, raised
from waterbyturns.errors import BadName, BadNumber, BadStanding, BadTurn, DriedOut, TooMany
from waterbyturns.field import Field, Standing
from waterbyturns.ground import Gates, Ground, Plot
from waterbyturns.weather import Day, Weather


def bad(what, value):
    return raised(BadNumber, what=what, value=value)


def field_of_size(holds, tank, moods):
    """A field with these holds, tank size and number of moods, and no gates."""
    plots = [Plot("abcd"[place], hold, 1) for place, hold in enumerate(holds)]
    none = [0] * len(holds)
    return Field(Ground(plots, Gates(), tank), Weather(*[[Day(none, none, 0, 0)]] * moods))


def small_field():
    """Two plots out of their alphabetical order, two moods and days of all kinds."""
    ground = Ground([Plot("b", 3, 2), Plot("a", 2, 3)], Gates(["a", "b"]), 3)
    return Field(ground, Weather([Day([1, 1], [0, 3], 2, 1), Day([0, 0], [1, 1], 0, 0), Day([2, 0], [0, 0], 3, 0)],
                                 [Day([1, 2], [0, 1], 1, 0), Day([3, 3], [8, 8], 8, 1)]))


def example():
    """The example behind point 24."""
    ground = Ground([Plot("a", 3, 2), Plot("b", 2, 2)], Gates(["a", "b"]), 4)
    return Field(ground, Weather([Day([1, 1], [0, 3], 5, 0), Day([0, 2], [0, 3], 5, 0)]))


def day_by_words(field, standing, turn, day):
    """Point 22, word by word: what is left, what was spilled, and the first plot that dried out."""
    levels, tank, spilled, dried = list(standing.levels), standing.tank, 0, None
    for place, plot in enumerate(field.ground.plots):
        if plot.name in turn:
            units = min(plot.drink, plot.hold - levels[place], tank)
            levels[place] += units
            tank -= units
    for place, plot in enumerate(field.ground.plots):
        levels[place] -= day.dry[place]
        if levels[place] < 0 and dried is None:
            dried = plot.name
    for place, plot in enumerate(field.ground.plots):
        levels[place] += day.rain[place]
        spilled += max(0, levels[place] - plot.hold)
        levels[place] = min(levels[place], plot.hold)
    tank += day.fill
    spilled += max(0, tank - field.ground.capacity)
    return Standing(levels, min(tank, field.ground.capacity), day.mood) if dried is None else None, spilled, dried


def standings_by_words(field):
    """All standings of a field in the order of point 21."""
    holds = [plot.hold for plot in field.ground.plots]
    ranges = [range(len(field.weather)), *[range(hold + 1) for hold in holds], range(field.ground.capacity + 1)]
    return [Standing(row[1:-1], row[-1], row[0]) for row in itertools.product(*ranges)]


def misfits(field):
    """Standings that do not fit the small field, each by one part."""
    return [Standing([1], 1, 0), Standing([1, 1, 1], 1, 0), Standing([4, 1], 1, 0), Standing([1, 3], 1, 0),
            Standing([1, 1], 4, 0), Standing([1, 1], 1, 2)]


class StandingTest(unittest.TestCase):
    def test_attributes(self):
        standing = Standing([0, 8, 3], 8, 3)
        self.assertEqual((standing.levels, standing.tank, standing.mood), ((0, 8, 3), 8, 3))
        self.assertIs(type(standing.levels), tuple)

    def test_numbers_out_of_range(self):
        for count in [0, 5, 6]:
            self.assertEqual(error_of(Standing, [0] * count, 0, 0), bad("plots", count))
        for value in [-1, 9, 10 ** 20]:
            self.assertEqual(error_of(Standing, [0, value], 0, 0), bad("level", value))
            self.assertEqual(error_of(Standing, [0, 0], value, 0), bad("tank", value))
        for value in [-1, 4]:
            self.assertEqual(error_of(Standing, [0, 0], 0, value), bad("mood", value))

    def test_what_is_no_integer(self):
        for value in OTHER_VALUES:
            self.assertIs(error_of(Standing, [value], 0, 0)[1]["value"], value)
            self.assertIs(error_of(Standing, [0], value, 0)[1]["value"], value)
            self.assertIs(error_of(Standing, [0], 0, value)[1]["value"], value)

    def test_the_order_of_the_checks(self):
        self.assertEqual(error_of(Standing, [9] * 5, 9, 9), bad("plots", 5))
        self.assertEqual(error_of(Standing, [0, 10, 9], 9, 9), bad("level", 10))
        self.assertEqual(error_of(Standing, [0], 9, 9), bad("tank", 9))
        self.assertEqual(error_of(Standing, [0], 8, 9), bad("mood", 9))

    def test_passed_levels_are_copied(self):
        levels = [1, 2]
        standing = Standing(levels, 0, 0)
        levels[0] = 5
        self.assertEqual(standing.levels, (1, 2))

    def test_comparisons(self):
        rows = [([level, other], tank, mood) for level, other, tank, mood in itertools.product(range(2), repeat=4)]
        rows += [([level], tank, 0) for level in range(2) for tank in range(2)]
        for (a, b, c), (d, e, f) in itertools.product(rows, repeat=2):
            one, two = Standing(a, b, c), Standing(d, e, f)
            fuller = c == f and len(a) == len(d) and b <= e and all(low <= high for low, high in zip(a, d))
            self.assertIs(one <= two, fuller)
            self.assertIs(one == two, (a, b, c) == (d, e, f))
            self.assertIs(one != two, (a, b, c) != (d, e, f))
        self.assertFalse(Standing([1], 1, 0) == ((1,), 1, 0))

    def test_text(self):
        self.assertEqual(str(Standing([2, 3], 1, 0)), "0: 2 3 / 1")
        self.assertEqual(str(Standing((8,), 0, 3)), "3: 8 / 0")
        self.assertEqual(str(Standing([0, 1, 2, 3], 8, 2)), "2: 0 1 2 3 / 8")


class FieldTest(unittest.TestCase):
    def test_the_weather_has_as_many_plots_as_the_ground(self):
        for plots, width in itertools.product(range(1, 5), repeat=2):
            ground = Ground([Plot("abcd"[place], 1, 1) for place in range(plots)], Gates(), 0)
            weather = Weather.steady([0] * width, [0] * width, 0)
            if plots == width:
                self.assertEqual(Field(ground, weather).size, 2 ** plots)
            else:
                self.assertEqual(error_of(Field, ground, weather), bad("plots", width))

    def test_the_number_of_plots_is_checked_before_the_size(self):
        ground = Ground([Plot(name, 8, 1) for name in "abcd"], Gates(), 8)
        self.assertEqual(error_of(Field, ground, Weather.steady([0], [0], 0)), bad("plots", 1))

    def test_sizes(self):
        for holds, tank, moods, size in [([1], 0, 1, 2), ([8], 8, 4, 324), ([3, 2], 4, 2, 120), ([1, 1, 1, 1], 0, 1, 16),
                                         ([6, 6, 7, 4], 2, 1, 5880), ([4, 4, 4, 7], 5, 1, 6000),
                                         ([4, 3, 4, 4], 2, 4, 6000)]:
            self.assertEqual(field_of_size(holds, tank, moods).size, size)

    def test_too_many_standings(self):
        # 6048 is the least number above 6000 that is a product of such sizes.
        for holds, tank, moods in [([8, 7, 6, 3], 2, 1), ([8, 7, 6], 2, 4), ([8, 8, 8, 8], 8, 4), ([4, 4, 4, 7], 6, 1),
                                   ([4, 4, 4, 7], 5, 2)]:
            self.assertEqual(error_of(field_of_size, holds, tank, moods), raised(TooMany, limit=6000))

    def test_the_limit_for_all_sizes(self):
        for holds in itertools.combinations_with_replacement(range(1, 9), 4):
            plots = (holds[0] + 1) * (holds[1] + 1) * (holds[2] + 1) * (holds[3] + 1)
            for tank in [size for size in range(9) if 5800 < plots * (size + 1) < 6200]:
                if plots * (tank + 1) <= 6000:
                    self.assertEqual(field_of_size(holds, tank, 1).size, plots * (tank + 1))
                else:
                    self.assertEqual(error_of(field_of_size, holds, tank, 1), raised(TooMany, limit=6000))

    def test_the_field_keeps_its_own_copy_of_the_ground(self):
        ground = Ground([Plot("a", 3, 2)], Gates(["a"]), 4)
        field = Field(ground, Weather.steady([1], [0], 5))
        ground.resize(1)
        self.assertEqual(field.ground.capacity, 4)
        self.assertEqual(field.size, 20)
        self.assertTrue(field.fits(Standing([3], 4, 0)))
        self.assertEqual(field.after(Standing([3], 4, 0), [], 0), Standing([2], 4, 0))
        self.assertTrue(field.ground == ground.with_tank(4))

    def test_equality(self):
        a, b, c = field_of_size([3, 2], 4, 2), field_of_size([3, 2], 4, 2), field_of_size([3, 2], 4, 1)
        self.assertTrue(a == b)
        self.assertFalse(a != b)
        self.assertFalse(a == c)
        self.assertFalse(a == field_of_size([2, 3], 4, 2))
        self.assertFalse(a == field_of_size([3, 2], 3, 2))
        self.assertFalse(a == a.ground)
        self.assertTrue(a.weather == b.weather)

    def test_which_standings_fit(self):
        field = small_field()
        for level, other, tank, mood in itertools.product(range(5), range(4), range(5), range(4)):
            expected = level <= 3 and other <= 2 and tank <= 3 and mood < 2
            self.assertIs(field.fits(Standing([level, other], tank, mood)), expected)
        for standing in misfits(field):
            self.assertIs(field.fits(standing), False, str(standing))


class NumbersTest(unittest.TestCase):
    def test_ascending_order(self):
        for field in [small_field(), example(), field_of_size([1, 2, 1, 3], 0, 3), field_of_size([8], 8, 4)]:
            expected = standings_by_words(field)
            self.assertEqual(list(field.standings()), expected)
            self.assertEqual([field.standing_at(number) for number in range(field.size)], expected)
            self.assertEqual([field.number(standing) for standing in expected], list(range(field.size)))

    def test_the_largest_field(self):
        field = field_of_size([4, 4, 4, 7], 5, 1)
        standings = list(field.standings())
        self.assertEqual(len(standings), 6000)
        self.assertEqual([field.number(standing) for standing in standings], list(range(6000)))
        self.assertEqual(str(standings[5999]), "0: 4 4 4 7 / 5")

    def test_the_first_difference_decides(self):
        rows = [Standing([3, 2], 3, 0), Standing([0, 0], 0, 1)], [Standing([0, 2], 3, 1), Standing([1, 0], 0, 1)], \
            [Standing([1, 0], 3, 1), Standing([1, 1], 0, 1)], [Standing([1, 1], 0, 1), Standing([1, 1], 1, 1)]
        for less, more in rows:
            self.assertLess(small_field().number(less), small_field().number(more))

    def test_no_number_of_the_field(self):
        field = small_field()
        for value in [-1, field.size, field.size + 1, 10 ** 20] + OTHER_VALUES:
            kind, attributes = error_of(field.standing_at, value)
            self.assertIs(kind, BadNumber)
            self.assertEqual(attributes["what"], "number")
            self.assertIs(attributes["value"], value)

    def test_no_standing_of_the_field(self):
        field = small_field()
        for standing in misfits(field):
            kind, attributes = error_of(field.number, standing)
            self.assertIs(kind, BadStanding)
            self.assertIs(attributes["standing"], standing)


class DayTest(unittest.TestCase):
    def test_the_example(self):
        field, standing = example(), Standing([1, 0], 3, 0)
        self.assertEqual(str(field.watered(standing, ["a", "b"])), "0: 3 1 / 0")
        self.assertEqual(str(field.after(standing, ["b", "a"], 0)), "0: 2 2 / 4")
        self.assertEqual(field.spill(standing, ("a", "b"), 0), 2)
        self.assertEqual(error_of(field.after, standing, ["a", "b"], 1), raised(DriedOut, plot="b", day=0))
        self.assertEqual(error_of(field.spill, standing, ["a", "b"], 1), raised(DriedOut, plot="b", day=0))
        self.assertEqual(field.moves(standing, ["a", "b"]), [Standing([2, 2], 4, 0), None])

    def test_all_standings_turns_and_days(self):
        field = small_field()
        for standing, turn in itertools.product(list(field.standings()), field.ground.turns()):
            days = field.weather[standing.mood]
            expected = [day_by_words(field, standing, turn, day) for day in days]
            self.assertEqual(field.moves(standing, turn), [row[0] for row in expected])
            for place, (later, spilled, dried) in enumerate(expected):
                if dried is None:
                    self.assertEqual(field.after(standing, turn, place), later)
                    self.assertEqual(field.spill(standing, turn, place), spilled)
                else:
                    for call in [field.after, field.spill]:
                        self.assertEqual(error_of(call, standing, turn, place), raised(DriedOut, plot=dried, day=0))

    def test_water_alone(self):
        dry_day = Weather([Day([8, 8], [8, 8], 8, 1)], [Day([8, 8], [8, 8], 8, 1)])
        ground = Ground([Plot("b", 3, 2), Plot("a", 5, 3)], Gates(["a", "b"]), 8)
        field = Field(ground, dry_day)
        rows = [([1, 1], 8, ["a", "b"], [3, 4], 3), ([1, 1], 8, [], [1, 1], 8), ([3, 5], 8, ["a", "b"], [3, 5], 8),
                ([0, 0], 0, ["a", "b"], [0, 0], 0), ([0, 0], 3, ["a", "b"], [2, 1], 0), ([2, 4], 8, ["b", "a"], [3, 5], 6),
                ([0, 0], 4, ["a"], [0, 3], 1), ([0, 0], 1, ["a"], [0, 1], 0), ([0, 0], 1, ["a", "b"], [1, 0], 0)]
        for levels, tank, turn, later, left in rows:
            for mood in (0, 1):
                self.assertEqual(field.watered(Standing(levels, tank, mood), turn), Standing(later, left, mood))

    def test_a_level_of_0_is_not_dried_out(self):
        field = Field(Ground([Plot("a", 8, 1)], Gates(), 0), Weather.steady([2], [0], 0))
        self.assertEqual(field.after(Standing([2], 0, 0), [], 0), Standing([0], 0, 0))
        self.assertEqual(error_of(field.after, Standing([1], 0, 0), [], 0), raised(DriedOut, plot="a", day=0))

    def test_rain_comes_too_late_for_a_dry_plot(self):
        field = Field(Ground([Plot("a", 8, 1)], Gates(), 0), Weather.steady([1], [8], 0))
        self.assertEqual(error_of(field.after, Standing([0], 0, 0), [], 0), raised(DriedOut, plot="a", day=0))
        self.assertEqual(field.moves(Standing([0], 0, 0), []), [None])

    def test_a_full_plot_dries_before_the_rain_fills_it(self):
        field = Field(Ground([Plot("a", 3, 1)], Gates(), 2), Weather.steady([1], [1], 1))
        self.assertEqual(field.after(Standing([3], 2, 0), [], 0), Standing([3], 2, 0))
        self.assertEqual(field.spill(Standing([3], 2, 0), [], 0), 1)
        self.assertEqual(field.spill(Standing([3], 1, 0), [], 0), 0)

    def test_the_first_dry_plot_in_the_order_of_the_ground(self):
        ground = Ground([Plot("c", 3, 1), Plot("b", 3, 1), Plot("a", 3, 1)], Gates(), 0)
        field = Field(ground, Weather.steady([0, 1, 1], [0, 0, 0], 0))
        self.assertEqual(error_of(field.after, Standing([0, 0, 0], 0, 0), [], 0), raised(DriedOut, plot="b", day=0))

    def test_the_order_of_the_errors(self):
        ground = Ground([Plot("a", 3, 2), Plot("b", 2, 2)], Gates(["a"], ["b"]), 4)
        field = Field(ground, Weather.steady([8, 8], [0, 0], 0))
        wrong, right = Standing([3, 3], 0, 0), Standing([0, 0], 0, 0)
        for call in [field.after, field.spill]:
            self.assertEqual(error_of(call, wrong, ["z"], 5), raised(BadStanding, standing=wrong))
            self.assertEqual(error_of(call, right, ["a", "a", "z"], 5), raised(BadName, name="z"))
            self.assertEqual(error_of(call, right, ["b", "a"], 5), raised(BadTurn, turn=("b", "a")))
            self.assertEqual(error_of(call, right, ["a", "a"], 5), raised(BadTurn, turn=("a", "a")))
            self.assertEqual(error_of(call, right, ["a"], 1), bad("day", 1))
            self.assertEqual(error_of(call, right, ["a"], -1), bad("day", -1))
            self.assertIs(error_of(call, right, ["a"], False)[1]["value"], False)
            self.assertEqual(error_of(call, right, ["a"], 0), raised(DriedOut, plot="a", day=0))
        for call in [field.watered, field.moves]:
            self.assertEqual(error_of(call, wrong, ["z"]), raised(BadStanding, standing=wrong))
            self.assertEqual(error_of(call, right, ["a", "a", "z"]), raised(BadName, name="z"))
            self.assertEqual(error_of(call, right, ["b", "a"]), raised(BadTurn, turn=("b", "a")))

    def test_the_day_is_one_of_the_mood(self):
        field = small_field()
        for mood, count in [(0, 3), (1, 2)]:
            standing = Standing([3, 2], 3, mood)
            for value in [-1, count, 6] + OTHER_VALUES:
                for call in [field.after, field.spill]:
                    kind, attributes = error_of(call, standing, [], value)
                    self.assertIs(kind, BadNumber)
                    self.assertEqual(attributes["what"], "day")
                    self.assertIs(attributes["value"], value)

    def test_standings_that_do_not_fit(self):
        field = small_field()
        for standing in misfits(field):
            for call, values in [(field.watered, ["z"]), (field.after, (["z"], 9)), (field.spill, (["z"], 9)),
                                 (field.moves, ["z"])]:
                kind, attributes = error_of(call, standing, *values)
                self.assertIs(kind, BadStanding)
                self.assertIs(attributes["standing"], standing)

    def test_nothing_is_modified_and_lists_are_new(self):
        field, standing, turn = example(), Standing([1, 0], 3, 0), ["b", "a"]
        field.moves(standing, turn).clear()
        self.assertEqual(len(field.moves(standing, turn)), 2)
        field.watered(standing, turn)
        field.after(standing, turn, 0)
        self.assertEqual(turn, ["b", "a"])
        self.assertEqual(standing, Standing([1, 0], 3, 0))


class HelpersTest(unittest.TestCase):
    def test_arrivals_are_the_numbers_of_the_moves(self):
        for field in [small_field(), example(), field_of_size([1, 2, 1], 0, 3)]:
            self.assertEqual(field.arrivals(), [
                [[None if arrival is None else field.number(arrival) for arrival in field.moves(standing, turn)]
                 for turn in field.ground.turns()] for standing in field.standings()])

    def test_standings_beside(self):
        field = small_field()
        for standing, units in itertools.product(field.standings(), [-2, -1, 1, 2]):
            found = []
            for place, limit in enumerate([3, 2, 3]):
                parts = [*standing.levels, standing.tank]
                parts[place] += units
                if 0 <= parts[place] <= limit:
                    found.append(Standing(parts[:2], parts[2], standing.mood))
            self.assertEqual(field.beside(standing, units), found)
        self.assertEqual(error_of(field.beside, Standing([0], 0, 0), 1),
                         raised(BadStanding, standing=Standing([0], 0, 0)))


class RunTest(unittest.TestCase):
    def setUp(self):
        self.field = small_field()
        self.start = Standing([3, 2], 3, 0)

    def test_the_standing_after_each_day(self):
        turns, days = [["a"], [], ["b", "a"], ["a"]], [0, 0, 1, 2]
        expected, present = [], self.start
        for turn, day in zip(turns, days):
            present = self.field.after(present, turn, day)
            expected.append(present)
        self.assertEqual(list(self.field.run(self.start, turns, days)), expected)
        self.assertEqual([str(standing) for standing in expected], ["1: 2 2 / 3", "0: 1 1 / 3", "0: 3 2 / 0", "0: 1 2 / 3"])

    def test_it_ends_with_the_shorter_list(self):
        for turns, days in itertools.product(range(4), repeat=2):
            run = self.field.run(self.start, [[]] * turns, [1] * days)
            self.assertEqual(len(list(run)), min(turns, days))

    def test_an_error_comes_when_its_day_is_reached(self):
        for turn, day, expected in [(["z"], 9, raised(BadName, name="z")), (["a", "a"], 9, raised(BadTurn, turn=("a", "a"))),
                                    ([], 9, bad("day", 9)), ([], True, bad("day", True))]:
            run = self.field.run(self.start, [[], [], turn], [1, 1, day])
            self.assertEqual(str(next(run)), "0: 3 2 / 3")
            next(run)
            self.assertEqual(error_of(next, run), expected)

    def test_drying_out_tells_the_place_of_the_day(self):
        field = Field(Ground([Plot("a", 8, 1)], Gates(), 0), Weather.steady([1], [0], 0))
        for level in range(9):
            run = field.run(Standing([level], 0, 0), [[]] * 10, [0] * 10)
            for gone in range(level):
                self.assertEqual(next(run), Standing([level - gone - 1], 0, 0))
            self.assertEqual(error_of(next, run), raised(DriedOut, plot="a", day=level))

    def test_lists_are_read_as_it_goes(self):
        turns, days = [["a"]], [0]
        run = self.field.run(self.start, turns, days)
        next(run)
        turns.append([])
        days.append(1)
        self.assertEqual(error_of(next, run), raised(DriedOut, plot="b", day=1))

    def test_a_start_that_does_not_fit(self):
        wrong = Standing([4, 2], 3, 0)
        run = self.field.run(wrong, [["z"]], [9])
        self.assertEqual(error_of(next, run), raised(BadStanding, standing=wrong))
        self.assertEqual(list(self.field.run(wrong, [], [0])), [])
        self.assertEqual(list(self.field.run(wrong, [["z"]], [])), [])

    def test_lists_are_not_changed(self):
        turns, days = [["a"], []], [1, 1]
        list(self.field.run(self.start, turns, days))
        self.assertEqual((turns, days), ([["a"], []], [1, 1]))

    def test_both_are_generators(self):
        self.assertIs(iter(run := self.field.run(self.start, [], [])), run)
        self.assertIs(iter(row := self.field.standings()), row)


class FullerTest(unittest.TestCase):
    def test_fuller_is_never_worse_for_one_day(self):
        field = small_field()
        standings = list(field.standings())
        for turn in field.ground.turns():
            later = [field.moves(standing, turn) for standing in standings]
            for (place, low), (at, high) in itertools.product(enumerate(standings), repeat=2):
                if low <= high:
                    for one, two in zip(later[place], later[at]):
                        self.assertTrue(one is None or (two is not None and one <= two))


if __name__ == "__main__":
    unittest.main()
