"""Points 67 and 68: looks, and runs told back, and what points 2 and 3 say of them."""

import copy
import itertools
import random
import unittest

from helper import error_of, raised
from samples import DRY, EASY, TIGHT, WET, OddBook, field_of, order, some_book, some_fields, standing_of, texts
from waterbyturns.books import AskingBook, DaysBook, DriestBook, RankBook
from waterbyturns.errors import BadName, BadStanding, BadTurn, NothingFits, TooMany, WaterError
from waterbyturns.field import Field, Standing
from waterbyturns.ground import Gates, Ground, Plot
from waterbyturns.looks import Looks, told_back
from waterbyturns.weather import Weather

UNFIT = [Standing([0], 0, 0), Standing([4, 0], 0, 0), Standing([0, 0], 4, 0), Standing([0, 0], 0, 1)]


def some_cases(count, seed):
    """Fields with a book and told standings."""
    pick = random.Random(seed)
    for field in some_fields(count, seed):
        rows = list(field.standings())
        yield field, some_book(pick, field), [pick.choice(rows) for _ in range(pick.choice([1, 2, 3, 8]))]


def passed_by_words(field, book, day, told):
    """The texts of the standings to which some day leads."""
    rows = [standing_of(text) for text in told]
    return {str(row) for one in rows for row in field.moves(one, book(field, one, day)) if row is not None}


def agreeing_by_words(field, told, levels, tank):
    found = set()
    for row in [standing_of(text) for text in told]:
        shown = dict(zip(field.ground.names, row.levels))
        if all(shown[name] == levels[name] for name in levels) and tank in (None, row.tank):
            found.add(str(row))
    return found


class LooksTest(unittest.TestCase):
    def test_runs(self):
        pick, seen = random.Random(91), {"pass": 0, "stop": 0, "look": 0, "blind": 0}
        for field, book, told in some_cases(200, 92):
            looks, expected, day = Looks(field, book, told), set(texts(told)), 0
            for _ in range(12):
                self.check_looks(looks, field, expected, day)
                if pick.random() < 0.5:
                    later = passed_by_words(field, book, day, expected)
                    error = error_of(looks.pass_day)
                    seen["pass" if later else "stop"] += 1
                    day += bool(later)
                else:
                    levels, tank = self.some_look(pick, field, expected)
                    later = agreeing_by_words(field, expected, levels, tank)
                    error = error_of(lambda: looks.look(levels, tank=tank))
                    seen["look" if later else "blind"] += 1
                self.assertEqual(error, None if later else raised(NothingFits, day=day))
                expected = later or expected
        self.assertGreater(min(seen.values()), 60, seen)

    def some_look(self, pick, field, told):
        row = standing_of(pick.choice(sorted(told)))
        shown = dict(zip(field.ground.names, row.levels))
        names = pick.sample(field.ground.names, pick.randint(0, len(shown)))
        wrong = pick.choice([0, 0, 0, 1])
        return ({name: shown[name] + wrong for name in names},
                pick.choice([None, None, row.tank, row.tank, row.tank + 1, -1, 100]))

    def check_looks(self, looks, field, expected, day):
        possible = looks.possible()
        self.assertEqual(possible, sorted([standing_of(text) for text in expected], key=order))
        self.assertEqual(looks.day, day)
        for place, name in enumerate(field.ground.names):
            levels = [row.levels[place] for row in possible]
            self.assertEqual(looks.span(name), (min(levels), max(levels)))

    def test_by_hand(self):
        field = field_of([("a", 3, 2)], [["a"]], 2, [([1], [0], 1, 0), ([0], [1], 0, 0)])
        looks = Looks(field, DaysBook(["a"], []), [standing_of("0: 0 / 1"), standing_of("0: 0 / 0")])
        self.assertEqual(texts(looks.possible()), ["0: 0 / 0", "0: 0 / 1"])
        # The dry day would have dried out the plot beside the empty tank, so there it did not come.
        self.assertIsNone(looks.pass_day())
        self.assertEqual((looks.day, texts(looks.possible())), (1, ["0: 0 / 1", "0: 1 / 0", "0: 2 / 0"]))
        self.assertEqual(looks.span("a"), (0, 2))
        self.assertIsNone(looks.look({}, tank=0))
        self.assertEqual(looks.span("a"), (1, 2))
        self.assertIsNone(looks.look({"a": 2}))
        self.assertEqual(texts(looks.possible()), ["0: 2 / 0"])
        looks.pass_day()
        self.assertEqual(texts(looks.possible()), ["0: 1 / 1", "0: 3 / 0"])
        looks.pass_day()
        self.assertEqual((looks.day, texts(looks.possible())), (3, ["0: 1 / 1", "0: 2 / 1", "0: 3 / 0"]))

    def test_the_attributes(self):
        book = RankBook("a", "b")
        looks = Looks(TIGHT, book, [standing_of("0: 1 1 / 1")])
        self.assertTrue(looks.field == TIGHT)
        self.assertIs(looks.book, book)
        self.assertEqual(looks.day, 0)

    def test_books_that_this_program_did_not_make(self):
        looks = Looks(EASY, OddBook(), [standing_of("0: 1 / 2")])
        looks.pass_day()
        self.assertEqual(texts(looks.possible()), ["0: 0 / 2"])
        looks.pass_day()
        self.assertEqual(texts(looks.possible()), ["0: 1 / 1"])

    def test_what_the_constructor_checks_first(self):
        fits = standing_of("0: 1 1 / 1")
        for told in [[], [fits], UNFIT]:
            self.assertEqual(error_of(Looks, TIGHT, RankBook("a", "c"), told), raised(BadName, name="c"))
            self.assertEqual(error_of(Looks, TIGHT, DaysBook(["b", "a"]), told), raised(BadTurn, turn=("b", "a")))
        for one, two in itertools.permutations(UNFIT, 2):
            found, attributes = error_of(Looks, TIGHT, RankBook("a"), [fits, one, two])
            self.assertIs(found, BadStanding)
            self.assertIs(attributes["standing"], one)
        self.assertEqual(error_of(Looks, TIGHT, RankBook("a"), []), raised(NothingFits, day=0))

    def test_wrong_looks_change_nothing(self):
        looks = Looks(TIGHT, RankBook("a"), [standing_of("0: 3 3 / 3"), standing_of("0: 2 3 / 0")])
        looks.pass_day()
        before = texts(looks.possible())
        cases = [(({"a": 9, "x": 1, "c": 1}, None), raised(BadName, name="x")), (({"c": 2, "x": 2}, 9), raised(BadName, name="c")),
                 (({"a": 0}, None), raised(NothingFits, day=1)), (({"a": 9}, None), raised(NothingFits, day=1)),
                 (({"b": -1}, None), raised(NothingFits, day=1)), (({}, 9), raised(NothingFits, day=1)),
                 (({}, -1), raised(NothingFits, day=1)), (({"a": 2, "b": 0}, None), raised(NothingFits, day=1))]
        for (levels, tank), error in cases:
            self.assertEqual(error_of(lambda: looks.look(levels, tank=tank)), error)
            self.assertEqual((texts(looks.possible()), looks.day), (before, 1))
        looks.look({})
        looks.look({}, tank=None)
        self.assertEqual(texts(looks.possible()), before)
        for name in ["c", "", "A", 1]:
            self.assertEqual(error_of(looks.span, name), raised(BadName, name=name))
        with self.assertRaises(TypeError):
            looks.look({}, 3)

    def test_a_day_that_nobody_can_pass(self):
        looks = Looks(DRY, RankBook("a"), [standing_of("1: 0 1 / 0")])
        looks.pass_day()
        for _ in range(2):
            self.assertEqual(error_of(looks.pass_day), raised(NothingFits, day=1))
            self.assertEqual((looks.day, texts(looks.possible())), (1, ["0: 0 0 / 0"]))

    def test_copies(self):
        told = [standing_of("0: 3 3 / 3"), standing_of("0: 2 3 / 0")]
        levels = {"b": 3}
        looks = Looks(TIGHT, RankBook("a"), told)
        told.clear()
        looks.possible().clear()
        self.assertEqual(len(looks.possible()), 2)
        looks.look(levels)
        self.assertEqual(levels, {"b": 3})
        levels["b"] = 0
        self.assertEqual(len(looks.possible()), 2)


def told_back_by_words(ground, weathers, books, rows):
    pairs = []
    for place, weather in enumerate(weathers):
        for at, book in enumerate(books):
            if weather.width != len(ground.plots):
                continue
            field = Field(ground, weather)
            try:
                book.check(field)
            except WaterError:
                continue
            if all(field.fits(row) for row in rows):
                steps = zip(rows, rows[1:])
                if all(any(arrival == later for arrival in field.moves(row, book(field, row, day)))
                       for day, (row, later) in enumerate(steps)):
                    pairs.append((place, at))
    return pairs


def some_run(pick, field, book, length):
    """A run of the book in the field, or the beginning of one."""
    rows = [pick.choice(list(field.standings()))]
    while len(rows) < length:
        arrivals = [row for row in field.moves(rows[-1], book(field, rows[-1], len(rows) - 1)) if row is not None]
        if not arrivals:
            break
        rows.append(pick.choice(arrivals))
    return rows


class ToldBackTest(unittest.TestCase):
    def test_runs(self):
        pick, found = random.Random(93), {}
        for field in some_fields(150, 94):
            weathers = [other.weather for other in some_fields(3, pick.random())]
            weathers.insert(pick.randint(0, 3), field.weather)
            weathers.append(field.weather)
            books = [some_book(pick, field) for _ in range(3)] + [RankBook("z")]
            rows = some_run(pick, field, books[0], pick.randint(1, 6))
            if pick.random() < 0.3:
                at = pick.randrange(len(rows))
                rows[at] = pick.choice(list(field.standings()) + [Standing([8], 8, 0)])
            expected = told_back_by_words(field.ground, weathers, books, rows)
            self.assertEqual(told_back(field.ground, weathers, books, rows), expected)
            found[len(expected)] = found.get(len(expected), 0) + 1
        self.assertGreater(min(found.get(count, 0) for count in [0, 2, 4, 6]), 3, found)

    def test_by_hand(self):
        ground = EASY.ground
        weathers = [Weather.steady([1], [0], 1), Weather.steady([1, 1], [0, 0], 1), Weather.steady([1], [1], 1),
                    Weather.steady([0], [0], 8)]
        books = [RankBook("a"), DaysBook([], ["a"]), DriestBook("b"), AskingBook(), DaysBook(["a", "a"][:1], [])]
        rows = [standing_of("0: 1 / 2"), standing_of("0: 2 / 1")]
        self.assertEqual(told_back(ground, weathers, books, rows), [(0, 0), (0, 4)])
        rows = rows[:1] + [standing_of("0: 0 / 2"), standing_of("0: 1 / 1")]
        self.assertEqual(told_back(ground, weathers, books, rows), [(0, 1)])
        self.assertEqual(told_back(ground, weathers, [], rows), [])
        self.assertEqual(told_back(ground, [], books, rows), [])

    def test_one_row_or_none(self):
        weathers = [Weather.steady([8], [0], 0), Weather.steady([0, 0], [0, 0], 0),
                    Weather.seasons([([8], [0], 0)], [([8], [0], 0)])]
        books = [RankBook("a"), RankBook("b"), DaysBook([], ["a"])]
        fitting = [(0, 0), (0, 2), (2, 0), (2, 2)]
        self.assertEqual(told_back(EASY.ground, weathers, books, []), fitting)
        self.assertEqual(told_back(EASY.ground, weathers, books, (standing_of("0: 0 / 0"),)), fitting)
        self.assertEqual(told_back(EASY.ground, weathers, books, [standing_of("1: 0 / 0")]), fitting[2:])
        for unfit in ["0: 4 / 0", "0: 0 / 3", "2: 0 / 0", "0: 0 0 / 0"]:
            self.assertEqual(told_back(EASY.ground, weathers, books, [standing_of(unfit)]), [])

    def test_a_run_ends_when_a_plot_dries_out(self):
        rows = [standing_of("0: 0 / 0"), standing_of("0: 0 / 1")]
        self.assertEqual(told_back(EASY.ground, [EASY.weather], [AskingBook()], rows), [])

    def test_too_many_standings(self):
        plots = [Plot("a", 4, 1), Plot("b", 4, 1), Plot("c", 4, 1), Plot("d", 7, 1)]
        calm, day = [0] * 4, ([0] * 4, [0] * 4, 0)
        one, two = Weather.steady(calm, calm, 0), Weather.seasons([day], [day])
        narrow = Weather.steady([0], [0], 0)
        for tank, weathers, too_many in [(5, [one, narrow], False), (6, [narrow, one], True), (2, [one, two], False),
                                         (3, [one, two], True), (3, [one, one, narrow], False), (8, [narrow], False)]:
            ground = Ground(plots, Gates(), tank)
            for books in [[], [RankBook("a")], [RankBook("x")]]:
                for rows in [[], [Standing([0], 0, 0)]]:
                    self.assertEqual(error_of(told_back, ground, weathers, books, rows),
                                     raised(TooMany, limit=6000) if too_many else None)

    def test_nothing_is_changed(self):
        weathers, books = [EASY.weather, WET.weather], [RankBook("a"), AskingBook()]
        rows = [standing_of("0: 1 / 2"), standing_of("0: 2 / 1")]
        before = [list(weathers), list(books), copy.deepcopy(rows)]
        told_back(EASY.ground, weathers, books, rows).clear()
        self.assertEqual([weathers, books, rows], before)
        self.assertEqual(told_back(EASY.ground, weathers, books, rows), [(0, 0)])


if __name__ == "__main__":
    unittest.main()
