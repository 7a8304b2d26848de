"""Points 62 to 64: the least tank, the least rain, the cheapest gates and missed turns (and point 33 beside them)."""

import copy
import itertools
import random
import unittest

from helper import OTHER_VALUES, error_of, raised
from samples import DRY, EASY, TIGHT, WET, field_of, ranks_by_words, some_fields, standing_of
from waterbyturns.errors import BadName, BadNumber, BadStanding, BadTurn, NotSafe, TooMany
from waterbyturns.field import Field, Standing
from waterbyturns.ground import Gates, Ground, Plot
from waterbyturns.least import cheapest_gates, least_rain, least_tank, misses
from waterbyturns.safe import Safe
from waterbyturns.weather import Day, Weather

BAD_NAMES = ["", "A", "a1", "toolongname"]


def is_safe_by_words(ground, weather, start):
    field = Field(ground, weather)
    return field.fits(start) and ranks_by_words(field)[str(start)] == 0


def least_tank_by_words(ground, weather, start):
    for size in range(start.tank, 9):
        if is_safe_by_words(ground.with_tank(size), weather, start):
            return size
    return None


def least_rain_by_words(ground, weather, start):
    for units in range(9):
        days = [[Day(day.dry, [min(8, wet + units) for wet in day.rain], day.fill, day.mood) for day in mood]
                for mood in weather.moods]
        if is_safe_by_words(ground, Weather(*days), start):
            return units
    return None


def cheapest_by_words(ground, weather, start, menu):
    """Point 63, by trying all choices in the order of the point."""
    choices = sorted(choice for size in range(len(menu) + 1)
                     for choice in itertools.combinations(range(len(menu)), size))
    found = {}
    for choice in choices:
        if is_safe_by_words(ground.with_gates(Gates(*[menu[place][0] for place in choice])), weather, start):
            found.setdefault(sum(menu[place][1] for place in choice), []).append(choice)
    return (min(found), found[min(found)]) if found else None


def misses_by_words(field, standing, plots):
    """Point 64: the greatest number of days, found by going on day by day; None for more days than standings."""
    turns = [turn for turn in field.ground.turns() if not set(turn) & set(plots)]
    ranks = ranks_by_words(field)
    now = {text for text in ranks if ranks[text] == 0}
    for days in range(field.size + 1):
        moves = {text: [field.moves(standing_of(text), turn) for turn in turns] for text in ranks}
        later = {text for text in ranks if any(all(arrival is not None and str(arrival) in now for arrival in arrivals)
                                               for arrivals in moves[text])}
        if str(standing) not in later:
            return days
        if later == now:
            return None
        now = later


def some_starts(count, seed):
    """Small fields, each with a standing that fits it."""
    pick = random.Random(seed)
    for field in some_fields(count, seed):
        yield field, pick.choice(list(field.standings()))


class LeastTankTest(unittest.TestCase):
    def test_least_tanks(self):
        found = {}
        for field, start in some_starts(60, 71):
            if field.size > 60:
                continue
            ground, weather = field.ground, field.weather
            size = least_tank(ground, weather, start)
            self.assertEqual(size, least_tank_by_words(ground, weather, start))
            for other in [0, 8]:
                self.assertEqual(least_tank(ground.with_tank(other), weather, start), size)
            self.assertEqual(least_tank(ground, weather.lean(), start), size)
            if size is not None:
                self.assertTrue(all(is_safe_by_words(ground.with_tank(more), weather, start)
                                    for more in range(size, 9)))
            key = None if size is None else size - start.tank
            found[key] = found.get(key, 0) + 1
        self.assertGreater(min(found.get(key, 0) for key in [None, 0, 1]), 1, found)

    def test_by_hand(self):
        ground = Ground([Plot("a", 4, 8)], Gates(["a"]), 0)
        # Three dry days, and then a day that fills the tank.
        weather = Weather.seasons([([1], [0], 0)], [([1], [0], 0)], [([1], [0], 0)], [([1], [0], 8)])
        self.assertEqual(least_tank(ground, weather, standing_of("0: 4 / 0")), 4)
        self.assertEqual(least_tank(ground, weather, standing_of("0: 4 / 3")), 4)
        self.assertEqual(least_tank(ground, weather, standing_of("0: 4 / 4")), 4)
        self.assertEqual(least_tank(ground, weather, standing_of("0: 4 / 5")), 5)
        self.assertEqual(least_tank(ground, weather, standing_of("0: 4 / 8")), 8)
        self.assertIsNone(least_tank(ground, weather, standing_of("0: 3 / 0")))
        self.assertEqual(least_tank(ground, weather, standing_of("3: 1 / 0")), 4)
        self.assertEqual(least_tank(ground, Weather.steady([0], [0], 0), standing_of("0: 0 / 0")), 0)

    def test_errors(self):
        ground = Ground([Plot("a", 2, 1), Plot("b", 2, 1)], Gates(["a"]), 0)
        weather = Weather.steady([0, 0], [0, 0], 0)
        for start in [Standing([1], 0, 0), Standing([3, 1], 0, 0), Standing([1, 1, 1], 8, 0), Standing([1, 1], 0, 1)]:
            found, attributes = error_of(least_tank, ground, weather, start)
            self.assertIs(found, BadStanding)
            self.assertIs(attributes["standing"], start)
            self.assertEqual(error_of(least_tank, ground, Weather.steady([0], [0], 0), start),
                             raised(BadNumber, what="plots", value=1))
            self.assertEqual(error_of(least_tank, ground, Weather.steady([0] * 3, [0] * 3, 0), start),
                             raised(BadNumber, what="plots", value=3))

    def test_too_many_standings(self):
        # With 1000 levels sizes up to 5 are small enough.
        plots = [Plot("a", 4, 1), Plot("b", 4, 1), Plot("c", 4, 1), Plot("d", 7, 1)]
        ground = Ground(plots, Gates(), 8)
        calm, dry = Weather.steady([0] * 4, [0] * 4, 0), Weather.steady([1] * 4, [0] * 4, 0)
        self.assertEqual(least_tank(ground, calm, Standing([0] * 4, 5, 0)), 5)
        self.assertEqual(error_of(least_tank, ground, calm, Standing([0] * 4, 6, 0)), raised(TooMany, limit=6000))
        self.assertEqual(error_of(least_tank, ground, dry, Standing([4] * 4, 4, 0)), raised(TooMany, limit=6000))
        self.assertEqual(error_of(least_tank, ground, dry, Standing([8] * 4, 6, 0)), raised(TooMany, limit=6000))
        self.assertIs(error_of(least_tank, ground, dry, Standing([8] * 4, 5, 0))[0], BadStanding)


class LeastRainTest(unittest.TestCase):
    def test_least_rains(self):
        found = {}
        for field, start in some_starts(70, 72):
            if field.size > 60:
                continue
            ground, weather = field.ground, field.weather
            units = least_rain(ground, weather, start)
            self.assertEqual(units, least_rain_by_words(ground, weather, start))
            self.assertEqual(least_rain(ground, weather.lean(), start), units)
            if units is not None:
                self.assertTrue(all(Safe(Field(ground, weather + more)).keeps(start) for more in range(units, 9)))
            found[units] = found.get(units, 0) + 1
        self.assertGreater(min(found.get(units, 0) for units in [None, 0, 1]), 1, found)

    def test_by_hand(self):
        ground = Ground([Plot("a", 8, 1), Plot("b", 8, 1)], Gates(), 3)
        for harsh in range(9):
            weather = Weather.steady([harsh, 0], [0, 0], 0)
            self.assertEqual(least_rain(ground, weather, standing_of("0: 8 0 / 3")), harsh)
            self.assertEqual(least_rain(ground, weather, standing_of("0: 7 0 / 0")), harsh if harsh < 8 else None)
        # The tank of the ground counts here.
        still = Weather.steady([1, 0], [0, 0], 0)
        self.assertIs(error_of(least_rain, ground, still, standing_of("0: 8 0 / 4"))[0], BadStanding)
        wet = Weather.steady([8, 8], [7, 2], 0)
        self.assertEqual(least_rain(ground, wet, standing_of("0: 8 8 / 0")), 6)

    def test_errors(self):
        ground = Ground([Plot("a", 2, 1), Plot("b", 2, 1)], Gates(["a"]), 1)
        weather = Weather.steady([0, 0], [0, 0], 0)
        for start in [Standing([1], 0, 0), Standing([3, 1], 0, 0), Standing([1, 1], 2, 0), Standing([1, 1], 0, 1)]:
            found, attributes = error_of(least_rain, ground, weather, start)
            self.assertIs(found, BadStanding)
            self.assertIs(attributes["standing"], start)
            self.assertEqual(error_of(least_rain, ground, Weather.steady([0], [0], 0), start),
                             raised(BadNumber, what="plots", value=1))
        plots = [Plot("a", 4, 1), Plot("b", 4, 1), Plot("c", 4, 1), Plot("d", 7, 1)]
        calm = Weather.steady([0] * 4, [0] * 4, 0)
        for tank, too_many in [(4, False), (5, False), (6, True), (8, True)]:
            large = Ground(plots, Gates(), tank)
            error = raised(TooMany, limit=6000) if too_many else None
            self.assertEqual(error_of(least_rain, large, calm, Standing([0] * 4, 0, 0)), error)
            wrong = Standing([8] * 4, 0, 0)
            self.assertEqual(error_of(least_rain, large, calm, wrong), error or raised(BadStanding, standing=wrong))
            self.assertEqual(error_of(least_rain, large, Weather.steady([0], [0], 0), wrong),
                             raised(BadNumber, what="plots", value=1))


class CheapestGatesTest(unittest.TestCase):
    def test_cheapest_gates(self):
        pick, found = random.Random(73), {}
        for field, start in some_starts(120, 74):
            if field.size > 48:
                continue
            names = field.ground.names
            menu = [(pick.sample(names, pick.randint(0, len(names))), pick.choice([1, 1, 2, 3, 99]))
                    for _ in range(pick.choice([0, 1, 2, 3, 4, 5]))]
            cheapest = cheapest_gates(field.ground, field.weather, start, menu)
            self.assertEqual(cheapest, cheapest_by_words(field.ground, field.weather, start, menu))
            none = field.ground.with_gates(Gates())
            self.assertEqual(cheapest_gates(none, field.weather.lean(), start, menu), cheapest)
            key = None if cheapest is None else (cheapest[0] > 0) + (len(cheapest[1]) > 1)
            found[key] = found.get(key, 0) + 1
        self.assertGreater(min(found.get(key, 0) for key in [None, 0, 1, 2]), 1, found)

    def test_by_hand(self):
        start = standing_of("0: 3 3 / 3")
        ground, weather = TIGHT.ground, Weather.steady([1, 1], [0, 0], 2)
        self.assertEqual(cheapest_gates(ground, weather, start, [(["a"], 3), (["b"], 4), (["a", "b"], 8)]),
                         (7, [(0, 1)]))
        self.assertEqual(cheapest_gates(ground, weather, start, [(["b", "a"], 7), (("b",), 4), (["a"], 3)]),
                         (7, [(0,), (1, 2)]))
        menu = [(["a"], 1), (["b"], 1), (["a"], 1), (["b", "a"], 2), (["b"], 1)]
        self.assertEqual(cheapest_gates(ground, weather, start, menu), (2, [(0, 1), (0, 4), (1, 2), (2, 4), (3,)]))
        self.assertIsNone(cheapest_gates(ground, weather, start, [(["a"], 1), (["a"], 2), ([], 3)]))
        self.assertIsNone(cheapest_gates(ground, weather, start, []))
        self.assertEqual(cheapest_gates(ground, weather, start, [([], 99), (["a"], 99), (["b"], 99)]), (198, [(1, 2)]))
        self.assertEqual(cheapest_gates(WET.ground, WET.weather, standing_of("0: 0 0 / 0"), []), (0, [()]))
        self.assertEqual(cheapest_gates(WET.ground, WET.weather, standing_of("0: 0 0 / 0"), [(["a"], 1)] * 5), (0, [()]))
        menu = [(["a", "b"], 99)] * 5
        self.assertEqual(cheapest_gates(ground, weather, start, menu), (99, [(0,), (1,), (2,), (3,), (4,)]))

    def test_errors(self):
        ground, weather, start = TIGHT.ground, TIGHT.weather, standing_of("0: 3 3 / 3")
        wrong_start, wrong_weather = Standing([4, 0], 0, 0), Weather.steady([0], [0], 0)
        cases = [([(["A"], 0)] * 6, raised(TooMany, limit=5)),
                 ([(["a"], 1), (["a", "x", "B"], 0)], raised(BadName, name="B")),
                 ([(["a"], 1), (["a", "x", "a"], 0)], raised(BadTurn, turn=("a", "x", "a"))),
                 ([(["b", "y", "x"], 0), (["A"], 1)], raised(BadName, name="y")),
                 ([(["b", "a"], 0), (["A"], 1)], raised(BadNumber, what="price", value=0)),
                 ([(["b", "a"], 99), ([], 100)], raised(BadNumber, what="price", value=100)),
                 ([(["b", "a"], 1), (["b"], -1), (["x"], 1)], raised(BadNumber, what="price", value=-1))]
        for menu, error in cases:
            for other_weather, other_start in [(weather, start), (weather, wrong_start), (wrong_weather, wrong_start)]:
                self.assertEqual(error_of(cheapest_gates, ground, other_weather, other_start, menu), error)
        for name in BAD_NAMES + OTHER_VALUES:
            found, attributes = error_of(cheapest_gates, ground, weather, start, [(["a", name], 1)])
            self.assertIs(found, BadName)
            self.assertIs(attributes["name"], name)
        for price in OTHER_VALUES:
            found, attributes = error_of(cheapest_gates, ground, weather, start, [(["a"], price)])
            self.assertEqual((found, attributes["what"]), (BadNumber, "price"))
            self.assertIs(attributes["value"], price)
        for menu in [[], [(["a"], 1)], [(["a"], 99)] * 5]:
            self.assertEqual(error_of(cheapest_gates, ground, wrong_weather, wrong_start, menu),
                             raised(BadNumber, what="plots", value=1))
            self.assertEqual(error_of(cheapest_gates, ground, weather, wrong_start, menu),
                             raised(BadStanding, standing=wrong_start))
        plots = [Plot("a", 4, 1), Plot("b", 4, 1), Plot("c", 4, 1), Plot("d", 7, 1)]
        calm = Weather.steady([0] * 4, [0] * 4, 0)
        wrong_start = Standing([0], 0, 0)
        self.assertEqual(error_of(cheapest_gates, Ground(plots, Gates(), 6), calm, wrong_start, []),
                         raised(TooMany, limit=6000))
        self.assertEqual(error_of(cheapest_gates, Ground(plots, Gates(), 5), calm, wrong_start, []),
                         raised(BadStanding, standing=wrong_start))

    def test_nothing_is_changed(self):
        menu = [(["b", "a"], 7), (["b"], 4), (["a"], 3)]
        before = copy.deepcopy(menu)
        start = standing_of("0: 3 3 / 3")
        price, choices = cheapest_gates(TIGHT.ground, TIGHT.weather, start, menu)
        self.assertEqual(menu, before)
        choices.clear()
        self.assertNotEqual(cheapest_gates(TIGHT.ground, TIGHT.weather, start, menu), (price, []))
        self.assertEqual(TIGHT.ground.gates, Gates(["a"], ["b"]))
        self.assertEqual(TIGHT.ground.capacity, 3)


class MissesTest(unittest.TestCase):
    def test_misses(self):
        pick, found = random.Random(75), {}
        for field in some_fields(120, 76):
            safe = Safe(field)
            rows = [row for row in field.standings() if safe.keeps(row)]
            if not rows or field.size > 100:
                continue
            names = field.ground.names
            for plots in [pick.sample(names, pick.randint(1, len(names))) for _ in range(2)]:
                start = pick.choice(rows)
                days = misses(safe, start, *plots)
                self.assertEqual(days, misses_by_words(field, start, plots))
                self.assertEqual(misses(safe, start, *plots, *plots[::-1]), days)
                without = Gates(*[[name for name in group if name not in plots] for group in field.ground.gates.groups])
                other = Safe(Field(field.ground.with_gates(without), field.weather))
                self.assertIs(days is None, other.keeps(start))
                found[days] = found.get(days, 0) + 1
        self.assertGreater(min(found.get(days, 0) for days in [None, 0, 1, 2]), 1, found)

    def test_by_hand(self):
        safe = Safe(EASY)
        # The plot loses one unit each day and the tank gets one; after n days one of both must have a unit.
        for text, days in [("0: 0 / 1", 0), ("0: 0 / 2", 0), ("0: 1 / 0", 1), ("0: 2 / 0", 2), ("0: 3 / 2", 3)]:
            self.assertEqual(misses(safe, standing_of(text), "a"), days)
            self.assertIsNone(misses(safe, standing_of(text)))
        self.assertIsNone(misses(Safe(WET), standing_of("0: 0 0 / 0"), "b", "a", "b"))

    def test_at_the_end_the_standing_is_safe(self):
        # The tank is filled on two days, and what finds no room is lost for the two days without rain.
        field = field_of([("a", 4, 4)], [["a"]], 3, [([0], [0], 3, 1)], [([0], [0], 3, 2)], [([1], [0], 0, 3)],
                         [([4], [0], 0, 0)])
        safe = Safe(field)
        # Without a turn on the first day the plot lives on for one more day, but nothing can save it any more.
        self.assertEqual(misses(safe, standing_of("1: 1 / 3"), "a"), 0)
        self.assertFalse(safe.keeps(standing_of("2: 1 / 3")))
        self.assertEqual(str(field.after(standing_of("2: 1 / 3"), [], 0)), "3: 0 / 3")
        for row in field.standings():
            if safe.keeps(row):
                self.assertEqual(misses(safe, row, "a"), misses_by_words(field, row, ["a"]))

    def test_errors(self):
        safe = Safe(TIGHT)
        lost, fits = standing_of("0: 0 0 / 0"), standing_of("0: 3 3 / 3")
        wrong = Standing([4, 0], 0, 0)
        self.assertFalse(safe.keeps(lost))
        self.assertEqual(error_of(misses, safe, wrong, "x"), raised(BadStanding, standing=wrong))
        self.assertEqual(error_of(misses, safe, lost, "x"), raised(NotSafe, standing=lost))
        self.assertEqual(error_of(misses, Safe(DRY), lost), raised(NotSafe, standing=lost))
        self.assertEqual(error_of(misses, safe, fits, "a", "b", "y", "x"), raised(BadName, name="y"))
        for name in BAD_NAMES:
            self.assertEqual(error_of(misses, safe, fits, "a", name, "x"), raised(BadName, name=name))


if __name__ == "__main__":
    unittest.main()
