"""Points 50 to 54, 56 and 57: hands that see only a part, their plans and their losses."""

import itertools
import random
import unittest

from helper import OTHER_VALUES, error_of, raised
from samples import DRY, EASY, TIGHT, WET, field_of, order, some_fields, standing_of, texts
from waterbyturns.errors import BadName, BadNumber, BadStanding, TooMany
from waterbyturns.field import Standing
from waterbyturns.plans import check_loss, check_plan
from waterbyturns.safe import Safe
from waterbyturns.sight import Sight, Watch

BAD_NAMES = ["", "A", "a1", "toolongname"] + OTHER_VALUES
UNFIT = [Standing([0], 0, 0), Standing([4, 0], 0, 0), Standing([0, 0], 4, 0), Standing([0, 0], 0, 1)]


# One gate for each plot; either plot may dry, so a hand has to see which one needs the water.
SEEING = field_of([("a", 2, 2), ("b", 2, 2)], [["a"], ["b"]], 2, [([1, 0], [0, 0], 1, 0), ([0, 1], [0, 0], 1, 0)])


def some_sight(pick, field):
    names = field.ground.names
    return Sight(*pick.sample(names, pick.randint(0, len(names))), tank=pick.choice([True, False]),
                 mood=pick.choice([True, False]), every=pick.choice([1, 1, 2, 3, 4]))


def some_cases(count, seed):
    """Fields with a sight and a told list of standings."""
    pick = random.Random(seed)
    for field in some_fields(count, seed):
        rows = list(field.standings())
        high = [row for row in rows if sum(row.levels) + row.tank >= 3] or rows
        told = [pick.choice(pick.choice([rows, high, high])) for _ in range(pick.choice([1, 1, 2, 3]))]
        yield field, some_sight(pick, field), told


def seen_by_words(field, sight, standing):
    """Point 50: the levels in the order of the ground, then the tank, then the mood."""
    parts = [level for name, level in zip(field.ground.names, standing.levels) if name in sight.plots]
    return tuple(parts + [standing.tank] * sight.tank + [standing.mood] * sight.mood)


def divided_by_words(field, sight, place, texts_of_lot):
    """Point 51: lots are sets of texts here."""
    if place != 0:
        return {(place, frozenset(texts_of_lot))} if texts_of_lot else set()
    parts = {}
    for text in texts_of_lot:
        parts.setdefault(seen_by_words(field, sight, standing_of(text)), set()).add(text)
    return {(0, frozenset(part)) for part in parts.values()}


def led_by_words(field, sight, lot, turn):
    """Point 52: the lots to which the turn leads, or None if it fails."""
    arrivals = [arrival for text in lot[1] for arrival in field.moves(standing_of(text), turn)]
    if None in arrivals:
        return None
    return divided_by_words(field, sight, (lot[0] + 1) % sight.every, {str(arrival) for arrival in arrivals})


def watched_by_words(field, sight, told):
    """The starting lots, the reached lots with what each turn leads to, and the rank of each lot (0 if it is kept)."""
    starts = divided_by_words(field, sight, 0, {str(row) for row in told})
    options, rest = {}, list(starts)
    while rest:
        lot = rest.pop()
        if lot not in options:
            options[lot] = [led_by_words(field, sight, lot, turn) for turn in field.ground.turns()]
            rest.extend(later for led in options[lot] for later in led or ())
    found = {}
    for rank in itertools.count(1):
        fresh = [lot for lot in options if lot not in found and
                 all(led is None or any(later in found for later in led) for led in options[lot])]
        if not fresh:
            return starts, options, {lot: found.get(lot, 0) for lot in options}
        found.update({lot: rank for lot in fresh})


def as_lot(row):
    """The place and the standings of a row, as the lots above are written."""
    return row[0], frozenset(texts(row[1]))


class SightTest(unittest.TestCase):
    def test_attributes(self):
        sight = Sight("b", "a")
        self.assertEqual((sight.plots, sight.tank, sight.mood, sight.every), (("a", "b"), False, False, 1))
        sight = Sight(tank=True, mood=True, every=4)
        self.assertEqual((sight.plots, sight.tank, sight.mood, sight.every), ((), True, True, 4))
        self.assertEqual(Sight("d", "abc", "ab", "c", "b", "a").plots, ("a", "ab", "abc", "b", "c", "d"))

    def test_names(self):
        for name in BAD_NAMES + ["a", "b"]:
            found, attributes = error_of(Sight, "a", "b", name, "A")
            self.assertIs(found, BadName)
            self.assertIs(attributes["name"], name)
        self.assertEqual(error_of(lambda: Sight("a", "A", every=0)), raised(BadName, name="A"))
        self.assertEqual(error_of(lambda: Sight("a", "a", every=0)), raised(BadName, name="a"))

    def test_every(self):
        for every in [1, 2, 3, 4]:
            self.assertEqual(Sight(every=every).every, every)
        for every in [0, -1, 5, 6, 100] + OTHER_VALUES:
            found, attributes = error_of(lambda: Sight("a", every=every))
            self.assertIs(found, BadNumber)
            self.assertEqual(attributes["what"], "every")
            self.assertIs(attributes["value"], every)

    def test_seen(self):
        field = field_of([("c", 2, 1), ("a", 3, 1), ("b", 1, 1)], [], 2, [([0, 0, 0], [0, 0, 0], 0, 1)],
                         [([0, 0, 0], [0, 0, 0], 0, 0)])
        standing = standing_of("1: 2 3 1 / 0")
        for names, expected in [((), ()), (("a", "c"), (2, 3)), (("a", "b", "c"), (2, 3, 1)), (("b",), (1,))]:
            self.assertEqual(Sight(*names).seen(field, standing), expected)
            self.assertEqual(Sight(*names, tank=True).seen(field, standing), (*expected, 0))
            self.assertEqual(Sight(*names, mood=True).seen(field, standing), (*expected, 1))
            self.assertEqual(Sight(*names, tank=True, mood=True, every=3).seen(field, standing), (*expected, 0, 1))
        for field, sight, told in some_cases(30, 20):
            self.assertEqual(sight.seen(field, told[0]), seen_by_words(field, sight, told[0]))

    def test_errors_of_seen(self):
        for standing in UNFIT:
            found, attributes = error_of(Sight("a").seen, TIGHT, standing)
            self.assertIs(found, BadStanding)
            self.assertIs(attributes["standing"], standing)
            self.assertEqual(error_of(Sight("z", "a", "x").seen, TIGHT, standing), raised(BadName, name="x"))

    def test_who_sees_more(self):
        sights = [Sight(*names, tank=tank, mood=mood, every=every) for names in [(), ("a",), ("b",), ("b", "a")]
                  for tank in [False, True] for mood in [False, True] for every in [1, 2, 3, 4]]
        for one, two in itertools.product(sights, repeat=2):
            expected = (set(one.plots) <= set(two.plots) and two.tank >= one.tank and two.mood >= one.mood
                        and one.every % two.every == 0)
            self.assertIs(one <= two, expected)
        with self.assertRaises(TypeError):
            Sight() <= ("a",)


class WatchTest(unittest.TestCase):
    def test_keeps_and_rank(self):
        found, places = set(), set()
        for field, sight, told in some_cases(250, 21):
            watch = Watch(field, sight)
            starts, options, lots = watched_by_words(field, sight, told)
            lost = [lots[start] for start in starts if lots[start] > 0]
            if len(options) > 400:
                self.assertEqual(error_of(watch.rank, told), raised(TooMany, limit=400))
                continue
            self.assertEqual(watch.rank(told), min(lost, default=0))
            self.assertIs(watch.keeps(told), lost == [])
            found.add(watch.rank(told))
            places.add((sight.every, lost == []))
        self.assertGreaterEqual(found, {0, 1, 2, 3, 4})
        self.assertEqual(len(places), 8)

    def test_plans(self):
        kept = 0
        for field, sight, told in some_cases(250, 22):
            watch = Watch(field, sight)
            starts, options, lots = watched_by_words(field, sight, told)
            if len(options) > 400:
                continue
            rows = watch.plan(told)
            if any(lots[start] for start in starts):
                self.assertIsNone(rows)
                continue
            kept += 1
            self.check_rows(field, starts, options, lots, rows)
            self.assertIs(check_plan(field, sight, told, rows), True)
        self.assertGreater(kept, 60)

    def check_rows(self, field, starts, options, lots, rows):
        """Point 54 for the rows of a plan."""
        turns = field.ground.turns()
        needed = set(starts)
        for row in rows:
            lot = as_lot(row)
            good = [turn for turn, led in zip(turns, options[lot]) if led is not None and not any(map(lots.get, led))]
            self.assertEqual(row[2], good[0])
            needed |= options[lot][turns.index(row[2])]
            self.assertIsInstance(row, tuple)
            self.assertIsInstance(row[1], tuple)
            self.assertEqual(list(row[1]), sorted(row[1], key=order))
            self.assertEqual(len(row[1]), len(lot[1]))
        found = [as_lot(row) for row in rows]
        self.assertEqual(len(found), len(set(found)))
        self.assertEqual(set(found), needed)
        self.assertEqual(set(found[:len(starts)]), starts)

    def test_losses(self):
        lengths = set()
        for field, sight, told in some_cases(250, 23):
            watch = Watch(field, sight)
            starts, options, lots = watched_by_words(field, sight, told)
            if len(options) > 400:
                continue
            rows, rank = watch.loss(told), watch.rank(told)
            if rank == 0:
                self.assertIsNone(rows)
                continue
            self.assertEqual(check_loss(field, sight, told, rows), rank)
            self.check_loss_rows(field, sight, starts, rows, rank)
            lengths.add(rank)
        self.assertGreaterEqual(lengths, {1, 2, 3, 4})

    def check_loss_rows(self, field, sight, starts, rows, rank):
        """Point 56 for the rows of a loss."""
        days = []
        for at, (place, lot, answers) in enumerate(rows):
            self.assertIsInstance(lot, tuple)
            self.assertIsInstance(answers, tuple)
            self.assertEqual(list(lot), sorted(lot, key=order))
            for turn, answer in zip(field.ground.turns(), answers):
                led = led_by_words(field, sight, as_lot(rows[at]), turn)
                self.assertEqual(answer is None, led is None)
                if answer is not None:
                    named = as_lot(rows[answer])
                    self.assertLess(answer, at)
                    self.assertTrue(any(named[0] == later[0] and named[1] <= later[1] for later in led))
            days.append(1 + max([days[answer] for answer in answers if answer is not None], default=0))
        last = as_lot(rows[-1])
        self.assertTrue(any(last[0] == 0 and last[1] <= start[1] for start in starts))
        self.assertEqual(days[-1], rank)

    def test_the_empty_list(self):
        for field in [EASY, TIGHT, WET, DRY]:
            watch = Watch(field, Sight(every=3))
            self.assertIs(watch.keeps([]), True)
            self.assertEqual((watch.rank([]), watch.plan([]), watch.loss([])), (0, [], None))

    def test_a_plan_and_a_loss_that_are_told_by_hand(self):
        low, high = standing_of("0: 0 / 1"), standing_of("0: 1 / 0")
        watch = Watch(EASY, Sight())
        self.assertEqual(watch.plan([high]), [(0, (high,), ()), (0, (low,), ("a",))])
        self.assertEqual(watch.plan([high, low, high]), [(0, (low, high), ("a",)), (0, (low,), ("a",))])
        dry = standing_of("0: 0 / 0")
        self.assertEqual(watch.loss([high, dry]), [(0, (dry, high), (None, None))])
        watch = Watch(EASY, Sight("a"))
        self.assertEqual(watch.plan([high, low]), [(0, (low,), ("a",)), (0, (high,), ())])
        self.assertEqual(watch.rank([high, dry]), 1)

    def test_a_field_where_seeing_decides(self):
        told = [standing_of("0: 0 1 / 2"), standing_of("0: 1 0 / 2")]
        for sight, kept in [(Sight(), False), (Sight(tank=True, mood=True), False), (Sight("a"), True),
                            (Sight("b"), True), (Sight("a", every=2), True), (Sight("a", every=4), False)]:
            watch = Watch(SEEING, sight)
            self.assertIs(watch.keeps(told), kept)
            self.assertEqual(watch.plan(told) is None, not kept)
            self.assertEqual(watch.loss(told) is None, kept)

    def test_the_days_on_which_the_hand_sees(self):
        rows = list(SEEING.standings())
        for sight, count in [(Sight(), 10), (Sight("a"), 20), (Sight("a", every=2), 17), (Sight("a", "b", every=3), 10)]:
            watch = Watch(SEEING, sight)
            self.assertEqual(len([row for row in rows if watch.keeps([row])]), count)

    def test_the_number_of_lots(self):
        found = set()
        for field, sight, told in self.wide_cases():
            count = len(watched_by_words(field, sight, told)[1])
            watch = Watch(field, sight)
            for call in [watch.keeps, watch.rank, watch.plan, watch.loss]:
                self.assertEqual(error_of(call, told), raised(TooMany, limit=400) if count > 400 else None)
                wrong = Standing([8, 0], 0, 0)
                self.assertEqual(error_of(call, told + [wrong]), raised(BadStanding, standing=wrong))
            found.add(count)
        self.assertGreaterEqual(found, {399, 400, 401})

    def wide_cases(self):
        """A field that stays as it is, so that each told standing is one reached lot of a hand that sees all."""
        field = field_of([("a", 7, 1), ("b", 7, 1)], [], 6, [([0, 0], [0, 0], 0, 0)])
        rows = list(field.standings())
        sight = Sight("a", "b", tank=True)
        for count in [1, 399, 400, 401, 402, 448]:
            yield field, sight, rows[:count]

    def test_lots_that_are_reached_later_count_too(self):
        field = field_of([("a", 8, 8), ("b", 8, 8)], [], 8, [([0, 0], [0, 1], 0, 0), ([0, 0], [1, 0], 0, 0),
                                                             ([0, 0], [0, 0], 1, 0)])
        sight = Sight("a", "b", tank=True)
        watch = Watch(field, sight)
        for levels, count in [("3 0 / 1", 432), ("0 4 / 0", 405), ("4 0 / 1", 360), ("8 0 / 0", 81)]:
            told = [standing_of(f"0: {levels}")]
            self.assertEqual(len(watched_by_words(field, sight, told)[1]), count)
            self.assertEqual(error_of(watch.keeps, told), raised(TooMany, limit=400) if count > 400 else None)

    def test_lots_behind_a_turn_that_fails_are_not_reached(self):
        field = field_of([("a", 8, 1), ("b", 8, 1)], [["a"]], 8, [([1, 0], [8, 1], 0, 0), ([1, 0], [8, 0], 1, 0)])
        told = [standing_of("0: 0 0 / 8")]
        sight = Sight("a", "b", tank=True)
        self.assertEqual(error_of(Watch(field, sight).keeps, told), None)
        self.assertLess(len(watched_by_words(field, sight, told)[1]), 400)

    def test_large_lots(self):
        field = field_of([("a", 4, 2), ("b", 4, 2), ("c", 4, 2), ("d", 7, 3)], [], 5,
                         [([0, 0, 0, 0], [0, 0, 0, 0], 0, 0)] * 2)
        watch = Watch(field, Sight(every=4))
        told = list(field.standings())
        self.assertIs(watch.keeps(told), True)
        self.assertEqual([row[0] for row in watch.plan(told[::-1])], [0, 1, 2, 3])
        self.assertEqual(watch.plan(told)[3], (3, tuple(told), ()))


class WatchErrorsTest(unittest.TestCase):
    def test_names_that_no_plot_has(self):
        self.assertEqual(error_of(Watch, TIGHT, Sight("z", "b", "x", "a")), raised(BadName, name="x"))
        self.assertEqual(error_of(Watch, EASY, Sight("b", "a")), raised(BadName, name="b"))
        sight = Sight("b", "a")
        watch = Watch(TIGHT, sight)
        self.assertIs(watch.sight, sight)
        self.assertTrue(watch.field == TIGHT)

    def test_standings_that_do_not_fit(self):
        watch, fits = Watch(TIGHT, Sight("a")), standing_of("0: 0 0 / 0")
        for standing, other in itertools.permutations(UNFIT, 2):
            for call in [watch.keeps, watch.rank, watch.plan, watch.loss]:
                found, attributes = error_of(call, [fits, standing, other])
                self.assertIs(found, BadStanding)
                self.assertIs(attributes["standing"], standing)

    def test_nothing_is_changed_and_lists_are_new(self):
        watch = Watch(EASY, Sight())
        told = [standing_of("0: 1 / 0"), standing_of("0: 0 / 1")]
        before = list(told)
        plan = watch.plan(told)
        watch.plan(told).clear()
        self.assertEqual(watch.plan(told), plan)
        told.append(standing_of("0: 0 / 0"))
        loss = watch.loss(told)
        watch.loss(told).clear()
        self.assertEqual(watch.loss(told), loss)
        self.assertEqual(told[:2], before)
        self.assertEqual(watch.plan(before), plan)


class MoreTest(unittest.TestCase):
    def test_who_sees_more_is_never_worse(self):
        pick, better = random.Random(31), 0
        cases = list(some_cases(120, 24))
        cases += [(SEEING, some_sight(pick, SEEING), pick.sample(list(SEEING.standings()), 2)) for _ in range(120)]
        for field, sight, told in cases:
            rank = self.rank_or_none(field, sight, told)
            names = field.ground.names
            every = [count for count in [1, 2, 3, 4] if sight.every % count == 0]
            more = Sight(*{*sight.plots, *pick.sample(names, pick.randint(0, len(names)))}, mood=True,
                         tank=sight.tank or pick.choice([True, False]), every=pick.choice(every))
            self.assertTrue(sight <= more)
            later = self.rank_or_none(field, more, told)
            if rank == 0 and later is not None:
                self.assertEqual(later, 0)
            better += rank not in (0, None) and later == 0
        self.assertGreater(better, 3)

    def rank_or_none(self, field, sight, told):
        watch = Watch(field, sight)
        return None if error_of(watch.rank, told) else watch.rank(told)

    def test_who_is_told_more_is_never_worse(self):
        kept = 0
        for field, sight, told in some_cases(150, 25):
            if self.rank_or_none(field, sight, told) == 0:
                kept += 1
                for size in range(len(told)):
                    for part in itertools.combinations(told, size):
                        self.assertIn(self.rank_or_none(field, sight, list(part)), [0, None])
        self.assertGreater(kept, 30)

    def test_who_sees_all_keeps_the_safe_standings(self):
        for field in some_fields(60, 26):
            watch, safe = Watch(field, Sight(*field.ground.names, tank=True, mood=True)), Safe(field)
            for row in field.standings():
                found = error_of(watch.keeps, [row])
                if found is None:
                    self.assertIs(watch.keeps([row]), safe.keeps(row))
                    self.assertEqual(watch.rank([row]), safe.rank(row))


if __name__ == "__main__":
    unittest.main()
