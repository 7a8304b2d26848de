"""Points 14 to 18: days and weathers, and what point 2 says of them."""

import itertools
import unittest

from helper import OTHER_VALUES, error_of, raised
from waterbyturns.errors import BadNumber
from waterbyturns.weather import Day, Weather


def bad(what, value):
    return raised(BadNumber, what=what, value=value)


def parts(day):
    return day.dry, day.rain, day.fill, day.mood


def small_days():
    """All days of one plot with small numbers and of two moods, and some of two plots."""
    rows = [Day([dry], [rain], fill, mood) for dry, rain, fill, mood in itertools.product(range(3), repeat=4)
            if mood < 2]
    pairs = itertools.product([(0, 0), (0, 1), (1, 0), (2, 2)], repeat=2)
    return rows + [Day(dry, rain, fill, 0) for dry, rain in pairs for fill in (0, 1)]


def is_harsher(one, two):
    """Point 15, told part by part."""
    if len(one.dry) != len(two.dry) or one.mood != two.mood:
        return False
    places = range(len(one.dry))
    return (all(one.dry[k] >= two.dry[k] for k in places) and all(one.rain[k] <= two.rain[k] for k in places)
            and one.fill <= two.fill)


def lean_by_words(days):
    """Point 17, word by word."""
    left = []
    for place, day in enumerate(days):
        others = [(at, other) for at, other in enumerate(days) if at != place]
        if not any(is_harsher(other, day) and (not is_harsher(day, other) or at < place) for at, other in others):
            left.append(parts(day))
    return left


class DayChecksTest(unittest.TestCase):
    def test_attributes(self):
        day = Day([0, 8, 3], (8, 0, 1), 8, 3)
        self.assertEqual(parts(day), ((0, 8, 3), (8, 0, 1), 8, 3))
        self.assertIs(type(day.dry), tuple)
        self.assertIs(type(day.rain), tuple)

    def test_the_number_of_plots(self):
        for count in range(8):
            row = [1] * count
            if 1 <= count <= 4:
                self.assertEqual(Day(row, row, 0, 0).dry, tuple(row))
            else:
                self.assertEqual(error_of(Day, row, row, 0, 0), bad("plots", count))

    def test_rain_has_as_many_plots_as_dry(self):
        for width, length in itertools.product(range(1, 5), range(7)):
            if width != length:
                self.assertEqual(error_of(Day, [0] * width, [0] * length, 0, 0), bad("plots", length))

    def test_numbers_out_of_range(self):
        for value in [-1, 9, 10, 10 ** 20]:
            self.assertEqual(error_of(Day, [0, value], [0, 0], 0, 0), bad("dry", value))
            self.assertEqual(error_of(Day, [0, 0], [0, value], 0, 0), bad("rain", value))
            self.assertEqual(error_of(Day, [0, 0], [0, 0], value, 0), bad("fill", value))
        for value in [-1, 4, 5]:
            self.assertEqual(error_of(Day, [0, 0], [0, 0], 0, value), bad("mood", value))

    def test_what_is_no_integer(self):
        for value in OTHER_VALUES:
            self.assertIs(error_of(Day, [value], [0], 0, 0)[1]["value"], value)
            self.assertIs(error_of(Day, [0], [value], 0, 0)[1]["value"], value)
            self.assertIs(error_of(Day, [0], [0], value, 0)[1]["value"], value)
            self.assertIs(error_of(Day, [0], [0], 0, value)[1]["value"], value)

    def test_the_order_of_the_checks(self):
        self.assertEqual(error_of(Day, [9] * 5, [9], 9, 9), bad("plots", 5))
        self.assertEqual(error_of(Day, [0, 9, 10], [9], 9, 9), bad("dry", 9))
        self.assertEqual(error_of(Day, [0, 0], [9, 9, 9], 9, 9), bad("plots", 3))
        self.assertEqual(error_of(Day, [0, 0], [10, 9], 9, 9), bad("rain", 10))
        self.assertEqual(error_of(Day, [0, 0], [0, 0], 9, 9), bad("fill", 9))
        self.assertEqual(error_of(Day, [0, 0], [0, 0], 8, 9), bad("mood", 9))

    def test_passed_lists_are_copied(self):
        dry, rain = [1, 2], [3, 4]
        day = Day(dry, rain, 0, 0)
        dry[0] = rain[0] = 8
        self.assertEqual(parts(day), ((1, 2), (3, 4), 0, 0))


class DayOperatorsTest(unittest.TestCase):
    def test_equal_if_all_four_parts_are_equal(self):
        for one, two in itertools.product(small_days(), repeat=2):
            self.assertIs(one == two, parts(one) == parts(two))
            self.assertIs(one != two, parts(one) != parts(two))
        self.assertFalse(Day([0], [0], 0, 0) == ((0,), (0,), 0, 0))

    def test_at_least_as_harsh(self):
        for one, two in itertools.product(small_days(), repeat=2):
            self.assertIs(one <= two, is_harsher(one, two))

    def test_each_part_decides(self):
        day = Day([1, 1], [1, 1], 1, 1)
        for harsher in [Day([1, 2], [1, 1], 1, 1), Day([1, 1], [0, 1], 1, 1), Day([1, 1], [1, 1], 0, 1)]:
            self.assertIs(harsher <= day, True)
            self.assertIs(day <= harsher, False)
        for other in [Day([1, 1], [1, 1], 1, 0), Day([1], [1], 1, 1), Day([2, 0], [1, 1], 1, 1),
                      Day([1, 1], [0, 2], 1, 1), Day([2, 1], [1, 1], 2, 1)]:
            self.assertIs(other <= day, False)
            self.assertIs(day <= other, False)

    def test_more_rain(self):
        day = Day([1, 2, 3], [0, 7, 8], 4, 2)
        for units in range(9):
            wetter = day + units
            self.assertEqual(parts(wetter), ((1, 2, 3), (units, min(8, 7 + units), 8), 4, 2))
        self.assertEqual(parts(day), ((1, 2, 3), (0, 7, 8), 4, 2))

    def test_wrong_units(self):
        for value in [-1, 9, 100] + OTHER_VALUES:
            kind, attributes = error_of(lambda units: Day([0], [0], 0, 0) + units, value)
            self.assertIs(kind, BadNumber)
            self.assertEqual(attributes["what"], "units")
            self.assertIs(attributes["value"], value)


class WeatherChecksTest(unittest.TestCase):
    def test_the_number_of_moods(self):
        for count in range(7):
            moods = [[Day([0], [0], 0, 0)]] * count
            if 1 <= count <= 4:
                self.assertEqual(len(Weather(*moods)), count)
            else:
                self.assertEqual(error_of(Weather, *moods), bad("moods", count))

    def test_the_number_of_days(self):
        for count in range(9):
            days = [Day([0], [0], 0, 0)] * count
            if 1 <= count <= 6:
                self.assertEqual(len(Weather(days)[0]), count)
            else:
                self.assertEqual(error_of(Weather, days), bad("days", count))
                self.assertEqual(error_of(Weather, [Day([0], [0], 0, 0)], days), bad("days", count))

    def test_all_days_have_as_many_plots_as_the_first(self):
        one, two, three = [Day([0] * width, [0] * width, 0, 0) for width in (1, 2, 3)]
        self.assertEqual(error_of(Weather, [two, two, one, three]), bad("plots", 1))
        self.assertEqual(error_of(Weather, [two], [two, three, one]), bad("plots", 3))

    def test_the_next_mood_is_one_of_the_weather(self):
        days = [Day([0], [0], 0, mood) for mood in range(4)]
        self.assertEqual(Weather(days, days, days, days).width, 1)
        for count in range(1, 4):
            self.assertEqual(error_of(Weather, *[days] * count), bad("mood", count))

    def test_the_order_of_the_checks(self):
        wide, far, wide_far, good = Day([0] * 2, [0] * 2, 0, 0), Day([0], [0], 0, 3), Day([0] * 2, [0] * 2, 0, 3), \
            Day([0], [0], 0, 0)
        self.assertEqual(error_of(Weather, [far], [], [], [], []), bad("moods", 5))
        self.assertEqual(error_of(Weather, [far] * 7, []), bad("days", 7))
        self.assertEqual(error_of(Weather, [], [far]), bad("days", 0))
        self.assertEqual(error_of(Weather, [far], []), bad("mood", 3))
        self.assertEqual(error_of(Weather, [good], [far], []), bad("mood", 3))
        self.assertEqual(error_of(Weather, [good], [], [far]), bad("days", 0))
        self.assertEqual(error_of(Weather, [good, wide_far]), bad("plots", 2))
        self.assertEqual(error_of(Weather, [good, far, wide]), bad("mood", 3))
        self.assertEqual(error_of(Weather, [good, wide, far]), bad("plots", 2))

    def test_passed_lists_are_copied(self):
        days = [Day([0], [0], 0, 0)]
        weather = Weather(days)
        days.append(Day([1], [0], 0, 0))
        self.assertEqual(weather.moods, ((Day([0], [0], 0, 0),),))
        self.assertEqual(len(days), 2)


class WeatherPartsTest(unittest.TestCase):
    def setUp(self):
        self.dry, self.wet = Day([1, 0], [0, 0], 0, 1), Day([0, 0], [2, 2], 1, 0)
        self.weather = Weather([self.dry, self.wet], [self.wet])

    def test_moods_width_and_len(self):
        self.assertEqual(self.weather.moods, ((self.dry, self.wet), (self.wet,)))
        self.assertIs(type(self.weather.moods), tuple)
        self.assertEqual(self.weather.width, 2)
        self.assertEqual(len(self.weather), 2)

    def test_a_mood_is_a_tuple_of_days(self):
        self.assertEqual(self.weather[0], (self.dry, self.wet))
        self.assertEqual(self.weather[1], (self.wet,))
        self.assertIs(type(self.weather[0]), tuple)

    def test_no_mood(self):
        for value in [-1, 2, 3, 4] + OTHER_VALUES + [slice(0, 1)]:
            kind, attributes = error_of(lambda k: self.weather[k], value)
            self.assertIs(kind, BadNumber)
            self.assertEqual(attributes["what"], "mood")
            self.assertIs(attributes["value"], value)

    def test_equality(self):
        self.assertTrue(self.weather == Weather((self.dry, self.wet), [Day([0, 0], [2, 2], 1, 0)]))
        self.assertFalse(self.weather != Weather([self.dry, self.wet], [self.wet]))
        self.assertFalse(self.weather == Weather([self.wet, self.dry], [self.wet]))
        self.assertFalse(self.weather == Weather([self.dry, self.wet], [self.dry]))
        self.assertFalse(self.weather == Weather([self.dry, self.wet], [self.wet], [self.wet]))
        self.assertFalse(self.weather == self.weather.moods)

    def test_more_rain_from_both_sides(self):
        for units in range(9):
            expected = Weather([self.dry + units, self.wet + units], [self.wet + units])
            self.assertTrue(self.weather + units == expected)
            self.assertTrue(units + self.weather == expected)
        self.assertEqual((8 + self.weather)[0][1].rain, (8, 8))
        self.assertEqual(self.weather.moods, ((self.dry, self.wet), (self.wet,)))

    def test_wrong_units_from_both_sides(self):
        for value in [-1, 9, 10, None, True, False, 1.0, "1", [1]]:
            for add in [lambda units: self.weather + units, lambda units: units + self.weather]:
                kind, attributes = error_of(add, value)
                self.assertIs(kind, BadNumber)
                self.assertEqual(attributes["what"], "units")
                self.assertIs(attributes["value"], value)


class LeanTest(unittest.TestCase):
    def test_the_harsher_day_is_left(self):
        mild, harsh = Day([1], [1], 1, 0), Day([2], [1], 1, 0)
        self.assertEqual(Weather([mild, harsh]).lean().moods, ((harsh,),))
        self.assertEqual(Weather([harsh, mild]).lean().moods, ((harsh,),))

    def test_of_equal_days_the_first_is_left(self):
        one, two, three = Day([1], [1], 1, 0), Day([1], [1], 1, 0), Day([1], [1], 1, 0)
        left = Weather([one, two, three]).lean()
        self.assertEqual(len(left[0]), 1)
        self.assertIs(left[0][0], one)

    def test_days_that_do_not_compare_stay_in_their_order(self):
        days = [Day([0, 2], [0, 0], 0, 0), Day([2, 0], [0, 0], 0, 0), Day([0, 0], [0, 0], 0, 1)]
        for order in itertools.permutations(days):
            weather = Weather(order, order)
            self.assertTrue(weather.lean() == weather)

    def test_each_mood_by_itself(self):
        mild, harsh = Day([1], [1], 1, 0), Day([2], [1], 1, 0)
        self.assertEqual(Weather([mild], [harsh, mild]).lean().moods, ((mild,), (harsh,)))

    def test_all_short_rows_of_days(self):
        days = [Day([dry], [rain], fill, mood) for dry, rain, fill, mood in itertools.product(range(2), repeat=4)]
        for row in itertools.product(days, repeat=3):
            left = Weather(row, row[:1]).lean()
            self.assertEqual([parts(day) for day in left[0]], lean_by_words(row))

    def test_the_weather_stays_as_it_is(self):
        weather = Weather([Day([1], [1], 1, 0), Day([2], [1], 1, 0)])
        weather.lean()
        self.assertEqual(len(weather[0]), 2)


class MadeWeathersTest(unittest.TestCase):
    def test_steady(self):
        weather = Weather.steady([1, 2], (3, 4), 5)
        self.assertEqual(weather.moods, ((Day([1, 2], [3, 4], 5, 0),),))
        self.assertEqual(error_of(Weather.steady, [0], [0, 0], 9), bad("plots", 2))
        self.assertEqual(error_of(Weather.steady, [0], [0], 9), bad("fill", 9))

    def test_seasons_follow_each_other_in_a_ring(self):
        for count in range(1, 5):
            rows = [[([season], [0], 0), ([0], [season], 1)] for season in range(count)]
            expected = tuple((Day([season], [0], 0, (season + 1) % count), Day([0], [season], 1, (season + 1) % count))
                             for season in range(count))
            self.assertEqual(Weather.seasons(*rows).moods, expected)

    def test_seasons_may_have_different_numbers_of_days(self):
        weather = Weather.seasons([([0], [0], 0)], (([1], [0], 0), [(2,), (0,), 0]))
        self.assertEqual(weather.moods, ((Day([0], [0], 0, 1),), (Day([1], [0], 0, 0), Day([2], [0], 0, 0))))

    def test_the_number_of_rows_is_checked_first(self):
        self.assertEqual(error_of(Weather.seasons), bad("moods", 0))
        self.assertEqual(error_of(Weather.seasons, *[[([9], [0], 0)]] * 5), bad("moods", 5))

    def test_then_all_days_are_made_and_then_the_weather(self):
        good, wide, wrong = ([0], [0], 0), ([0, 0], [0, 0], 0), ([9], [0], 0)
        self.assertEqual(error_of(Weather.seasons, [], [good] * 7, [wrong]), bad("dry", 9))
        self.assertEqual(error_of(Weather.seasons, [good, wide], [good, wrong]), bad("dry", 9))
        self.assertEqual(error_of(Weather.seasons, [good], []), bad("days", 0))
        self.assertEqual(error_of(Weather.seasons, [good] * 7, []), bad("days", 7))
        self.assertEqual(error_of(Weather.seasons, [good], [good, wide]), bad("plots", 2))
        self.assertEqual(error_of(Weather.seasons, [good, ([0], [10], 0)], [wrong]), bad("rain", 10))

    def test_rows_are_not_changed(self):
        row = [([1], [0], 0)]
        weather = Weather.seasons(row)
        self.assertEqual(row, [([1], [0], 0)])
        row[0][0][0] = 5
        row.clear()
        self.assertEqual(weather.moods, ((Day([1], [0], 0, 0),),))


if __name__ == "__main__":
    unittest.main()
