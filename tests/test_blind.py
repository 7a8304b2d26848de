"""Points 58 to 61: blind hands, and what points 2 and 3 say of them."""

import copy
import itertools
import random
import unittest

from helper import OTHER_VALUES, error_of, raised
from samples import DRY, EASY, TIGHT, WET, field_of, some_fields, standing_of, texts
from waterbyturns.blind import Blind
from waterbyturns.errors import BadName, BadNumber, BadStanding, BadTurn, TooMany
from waterbyturns.field import Standing
from waterbyturns.sight import Sight, Watch
from waterbyturns.upsets import UpSet

UNFIT = [Standing([0], 0, 0), Standing([4, 0], 0, 0), Standing([0, 0], 4, 0), Standing([0, 0], 0, 1)]


def some_cases(count, seed):
    """Fields with told standings, most of them rather full."""
    pick = random.Random(seed)
    for field in some_fields(count, seed):
        rows = list(field.standings())
        high = [row for row in rows if sum(row.levels) + row.tank >= 3] or rows
        yield field, [pick.choice(pick.choice([rows, high, high])) for _ in range(pick.choice([0, 1, 1, 2, 3]))]


def some_narrow_cases(count, seed):
    """Fields with one gate for each plot, where the plots have to be watered one after the other."""
    pick = random.Random(seed)
    for _ in range(count):
        width = pick.choice([2, 2, 3])
        holds = [pick.randint(2, 4) for _ in range(width)]
        tank = pick.randint(1, 3)
        moods = pick.choice([1, 1, 2])
        days = [[([pick.choice([0, 1, 1, 1]) for _ in holds], [0] * width, pick.choice([1, 2, 3]),
                  pick.randrange(moods)) for _ in range(pick.choice([1, 2]))] for _ in range(moods)]
        drinks = [2, 3]
        if pick.random() < 0.4:
            holds, drinks, tank, days = [4] * width, [3], 3, [[([1] * width, [0] * width, 3, 0)]]
        plots = [("abc"[place], hold, pick.choice(drinks)) for place, hold in enumerate(holds)]
        field = field_of(plots, [["a"], ["b"], ["c"]][:width], tank, *days)
        yield field, [Standing([pick.randint(hold // 2, hold) for hold in holds], tank, 0)]


def after_by_words(field, told, turn):
    """Point 58: all standings to which some day leads, as texts, or None; told are texts."""
    arrivals = [arrival for text in told for arrival in field.moves(standing_of(text), turn)]
    return None if None in arrivals else frozenset(texts(arrivals))


def least_by_words(told):
    """The texts of the standings that are above no other one of the told texts."""
    rows = [standing_of(text) for text in told]
    return frozenset(str(row) for row in rows if not any(other <= row and other != row for other in rows))


def lots_by_words(field, told):
    """Point 59: all reached lots, each with the lots to which the turns lead, and whether each is kept."""
    rest = [least_by_words(texts(told))]
    options = {}
    while rest:
        lot = rest.pop()
        if lot not in options:
            led = [after_by_words(field, lot, turn) for turn in field.ground.turns()]
            options[lot] = [None if later is None else least_by_words(later) for later in led]
            rest.extend(later for later in options[lot] if later is not None)
    kept = dict.fromkeys(options, True)
    changed = True
    while changed:
        lost = [lot for lot in options if kept[lot] and not any(later and kept[later] or later == frozenset()
                                                                for later in options[lot])]
        kept.update(dict.fromkeys(lost, False))
        changed = bool(lost)
    return options, kept


def rounds_by_words(field, told):
    """Point 60, step by step, for standings that are kept."""
    options, kept = lots_by_words(field, told)
    passed, made = [least_by_words(texts(told))], []
    while True:
        later = options[passed[-1]]
        place = [place for place, lot in enumerate(later) if lot is not None and kept[lot]][0]
        made.append(field.ground.turns()[place])
        lot = UpSet([standing_of(text) for text in later[place]])
        for at, earlier in enumerate(passed):
            if lot <= UpSet([standing_of(text) for text in earlier]):
                return tuple(made[:at]), tuple(made[at:])
        passed.append(later[place])


def holds_by_words(field, told, ahead, ring):
    """Point 61: all standings that may come are followed, until a round of the ring brings no new one."""
    now = frozenset(texts(told))
    for turn in ahead:
        now = after_by_words(field, now, turn)
        if now is None:
            return False
    seen = set()
    while now not in seen:
        seen.add(now)
        for turn in ring:
            now = after_by_words(field, now, turn)
            if now is None:
                return False
    return True


def shortest_by_words(field, told, most):
    for length in range(1, most + 1):
        for ring in itertools.product(field.ground.turns(), repeat=length):
            if holds_by_words(field, told, (), ring):
                return ring
    return None


class AfterTest(unittest.TestCase):
    def test_after(self):
        found = set()
        for field, told in some_cases(150, 61):
            blind = Blind(field)
            for turn in field.ground.turns():
                expected = after_by_words(field, texts(told), turn)
                later = blind.after(told, list(turn)[::-1])
                if expected is None:
                    self.assertIsNone(later)
                else:
                    self.assertIsInstance(later, UpSet)
                    self.assertTrue(later == UpSet([standing_of(text) for text in expected]))
                    self.assertEqual(set(texts(later.least)), least_by_words(expected))
                found.add(expected if not expected else len(later))
        self.assertGreaterEqual(found, {None, frozenset(), 1, 2, 3})

    def test_by_hand(self):
        field = field_of([("a", 3, 2)], [["a"]], 2, [([1], [0], 0, 0), ([0], [0], 1, 0)])
        told = [standing_of("0: 1 / 2"), standing_of("0: 3 / 0"), standing_of("0: 2 / 2")]
        self.assertEqual(texts(Blind(field).after(told, []).least), ["0: 0 / 2", "0: 2 / 0"])
        self.assertEqual(texts(Blind(field).after(told, ["a"]).least), ["0: 2 / 0"])
        self.assertIsNone(Blind(field).after(told + [standing_of("0: 0 / 2")], []))
        self.assertEqual(texts(Blind(field).after([standing_of("0: 0 / 2")], ("a",)).least), ["0: 1 / 0"])

    def test_the_empty_list(self):
        for field in [EASY, TIGHT, WET, DRY]:
            for turn in field.ground.turns():
                self.assertTrue(Blind(field).after([], turn) == UpSet([]))

    def test_errors(self):
        blind, fits = Blind(TIGHT), standing_of("0: 1 1 / 1")
        self.assertEqual(error_of(blind.after, [], ["a", "x", "y"]), raised(BadName, name="x"))
        self.assertEqual(error_of(blind.after, [], ["b", "a"]), raised(BadTurn, turn=("b", "a")))
        self.assertEqual(error_of(blind.after, [fits], ["b", "b"]), raised(BadTurn, turn=("b", "b")))
        for one, two in itertools.permutations(UNFIT, 2):
            found, attributes = error_of(blind.after, [fits, one, two], ["x"])
            self.assertIs(found, BadStanding)
            self.assertIs(attributes["standing"], one)


class KeepsTest(unittest.TestCase):
    def test_keeps_and_rounds(self):
        seen = {"kept": 0, "lost": 0, "ahead": 0, "long": 0}
        for field, told in [*some_cases(250, 62), *some_narrow_cases(80, 71)]:
            options, kept = lots_by_words(field, told)
            blind = Blind(field)
            if len(options) > 400:
                self.assertEqual(error_of(blind.keeps, told), raised(TooMany, limit=400))
                continue
            keeps = kept[least_by_words(texts(told))]
            self.assertIs(blind.keeps(told), keeps)
            rounds = blind.rounds(told)
            seen["kept" if keeps else "lost"] += 1
            if not keeps:
                self.assertIsNone(rounds)
                continue
            self.assertEqual(rounds, rounds_by_words(field, told))
            ahead, ring = rounds
            self.assertIsInstance(rounds, tuple)
            self.assertIsInstance(ahead, tuple)
            self.assertIsInstance(ring, tuple)
            self.assertTrue(blind.holds(told, ahead, ring))
            seen["ahead"] += len(ahead) > 0
            seen["long"] += len(ring) > 1
        self.assertGreater(min(seen.values()), 20, seen)

    def test_agreement_with_a_hand_that_sees_nothing(self):
        found = {True: 0, False: 0}
        for field, told in [*some_cases(300, 63), *some_narrow_cases(80, 72)]:
            watch = Watch(field, Sight())
            if error_of(watch.keeps, told) is None:
                keeps = watch.keeps(told)
                self.assertIs(Blind(field).keeps(told), keeps)
                found[keeps] += 1
        self.assertGreater(min(found.values()), 60)

    def test_keeping_means_that_some_turns_hold(self):
        for field, told in some_cases(120, 64):
            blind = Blind(field)
            if error_of(blind.keeps, told) is None and not blind.keeps(told):
                self.assertIsNone(blind.shortest_ring(told, most=2))
                for ahead in itertools.product(field.ground.turns(), repeat=2):
                    self.assertFalse(blind.holds(told, ahead, ahead[::-1]))

    def test_the_empty_list(self):
        for field in [EASY, TIGHT, WET, DRY]:
            self.assertIs(Blind(field).keeps([]), True)
            self.assertEqual(Blind(field).rounds([]), ((), ((),)))
            self.assertIs(Blind(field).holds([], [], [()]), True)
            self.assertEqual(Blind(field).shortest_ring([]), ((),))

    def test_rounds_by_hand(self):
        # The plot loses one unit each day and the tank gets one.
        full = standing_of("0: 3 / 2")
        self.assertEqual(Blind(EASY).rounds([full]), (((), (), ()), (("a",), ())))
        self.assertEqual(Blind(EASY).rounds([standing_of("0: 0 / 1")]), ((), (("a",),)))
        self.assertEqual(Blind(EASY).rounds([standing_of("0: 1 / 2"), full]), (((),), (("a",), ())))
        self.assertIsNone(Blind(EASY).rounds([full, standing_of("0: 0 / 0")]))
        self.assertEqual(Blind(WET).rounds([standing_of("0: 0 0 / 0")]), ((), ((),)))

    def test_the_number_of_lots(self):
        still = ([0, 0, 0, 0], [0, 0, 0, 0], 8, 0)
        plots = [("a", 4, 1), ("b", 4, 1), ("c", 3, 1), ("d", 3, 1)]
        gates = [["a"], ["b"], ["c"], ["d"]]
        cases = [
            (399, field_of([("a", 5, 2), ("b", 5, 2), ("c", 5, 2)], [["a", "b"], ["b", "c"]], 5,
                           [([0, 1, 1], [0, 0, 0], 1, 1)], [([1, 1, 0], [0, 0, 0], 2, 1)]), "1: 4 5 1 / 3"),
            (400, field_of(plots, gates, 5, [still]), "0: 0 0 0 0 / 5"),
            (401, field_of([("a", 7, 1), ("b", 5, 1)], [["a", "b"]], 5,
                           [([1, 0], [0, 0], 1, 0), ([0, 0], [0, 0], 0, 0)]), "0: 3 1 / 4"),
            (401, field_of(plots, gates, 5, [still], [still]), "1: 0 0 0 0 / 5"),
        ]
        for count, field, text in cases:
            told, blind = [standing_of(text)], Blind(field)
            self.assertEqual(len(lots_by_words(field, told)[0]), count)
            for call in [blind.keeps, blind.rounds]:
                self.assertEqual(error_of(call, told), raised(TooMany, limit=400) if count > 400 else None)
                wrong = Standing([8, 8, 8, 8], 0, 0)
                self.assertEqual(error_of(call, told + [wrong]), raised(BadStanding, standing=wrong))
            # Only these two count the lots.
            self.assertIsNone(error_of(blind.after, told, []))
            self.assertIsNone(error_of(blind.holds, told, [], [[]]))
            self.assertIsNone(error_of(blind.shortest_ring, told))

    def test_lots_with_the_same_least_standings_are_one(self):
        # Day 0 may bring much, so there are many different sets, but the least standing stays the same.
        field = field_of([("a", 8, 1), ("b", 8, 1)], [], 8,
                         [([0, 0], [row // 2, row // 3], row // 2, 0) for row in range(6)])
        told = [standing_of("0: 0 0 / 0")]
        self.assertEqual(len(lots_by_words(field, told)[0]), 1)
        self.assertEqual(Blind(field).rounds(told), ((), ((),)))
        everything = list(field.standings())
        self.assertIs(Blind(field).keeps(everything), True)

    def test_standings_that_do_not_fit(self):
        blind, fits = Blind(TIGHT), standing_of("0: 0 0 / 0")
        for one, two in itertools.permutations(UNFIT, 2):
            for call in [blind.keeps, blind.rounds, blind.shortest_ring]:
                found, attributes = error_of(call, [fits, one, two])
                self.assertIs(found, BadStanding)
                self.assertIs(attributes["standing"], one)


class HoldsTest(unittest.TestCase):
    def test_holds(self):
        pick, found = random.Random(65), {}
        for field, told in some_cases(250, 66):
            turns, blind = field.ground.turns(), Blind(field)
            for _ in range(8):
                ahead = [pick.choice(turns) for _ in range(pick.choice([0, 0, 1, 2, 3]))]
                ring = [pick.choice(turns[-2:]) for _ in range(pick.choice([1, 2, 3, 5]))]
                expected = holds_by_words(field, told, ahead, ring)
                self.assertIs(blind.holds(told, tuple(ahead), [list(turn)[::-1] for turn in ring]), expected)
                found[expected] = found.get(expected, 0) + (len(told) > 0)
        self.assertGreater(min(found.values()), 100)

    def test_the_ring_is_made_again_and_again(self):
        field = field_of([("a", 8, 1)], [["a"]], 8, [([1], [0], 0, 0)])
        blind = Blind(field)
        for level, tank in [(8, 8), (3, 5), (0, 8)]:
            told = [Standing([level], tank, 0)]
            for length in range(1, 20):
                self.assertIs(blind.holds(told, [], [["a"]] * length), False)
            self.assertIsNone(blind.shortest_ring(told))
            self.assertIs(blind.keeps(told), False)
        wet = field_of([("a", 8, 1)], [["a"]], 8, [([1], [0], 1, 0)])
        told = [standing_of("0: 0 / 1")]
        self.assertIs(Blind(wet).holds(told, [], [["a"]]), True)
        self.assertIs(Blind(wet).holds(told, [], [["a"], []]), False)
        self.assertIs(Blind(wet).holds(told, [["a"]] * 50, [["a"]] * 50), True)
        self.assertIs(Blind(wet).holds(told, [["a"]] * 50 + [[]], [["a"]]), False)

    def test_errors(self):
        blind, fits = Blind(TIGHT), standing_of("0: 1 1 / 1")
        for unfit in UNFIT:
            found, attributes = error_of(blind.holds, [fits, unfit], [["x"]], [])
            self.assertIs(found, BadStanding)
            self.assertIs(attributes["standing"], unfit)
        for ring in [[], ()]:
            self.assertEqual(error_of(blind.holds, [fits], [["x"]], ring), raised(BadNumber, what="ring", value=0))
        cases = [([["a"], ["b", "x"], ["y"]], [["z"]], raised(BadName, name="x")),
                 ([["a"], ["b", "a"], ["y"]], [["z"]], raised(BadTurn, turn=("b", "a"))),
                 ([["a"], ["b"], []], [["a"], ("a", "a"), ["z"]], raised(BadTurn, turn=("a", "a"))),
                 ([], [[], ["b", "z"]], raised(BadName, name="z"))]
        for ahead, ring, error in cases:
            for told in [[], [fits], [standing_of("0: 0 0 / 0")]]:
                self.assertEqual(error_of(blind.holds, told, ahead, ring), error)


class ShortestRingTest(unittest.TestCase):
    def test_shortest_rings(self):
        found = {}
        for field, told in [*some_cases(80, 67), *some_narrow_cases(150, 70)]:
            if len(field.ground.turns()) > 5:
                continue
            blind = Blind(field)
            for most in [1, 2, 3]:
                expected = shortest_by_words(field, told, most)
                ring = blind.shortest_ring(told, most=most)
                self.assertEqual(ring, expected)
                key = ring and len(ring)
                found[key] = found.get(key, 0) + 1
        self.assertGreater(min(found.get(key, 0) for key in [None, 1, 2, 3]), 5, found)

    def test_rings_of_four(self):
        field = field_of([(name, 3, 2) for name in "abcd"], [[name] for name in "abcd"], 2,
                         [([1, 0, 0, 0], [0, 0, 0, 0], 2, 1)], [([0, 1, 0, 0], [0, 0, 0, 0], 2, 2)],
                         [([0, 0, 1, 0], [0, 0, 0, 0], 2, 3)], [([0, 0, 0, 1], [0, 0, 0, 0], 2, 0)])
        told, blind = [standing_of("0: 0 0 0 0 / 2")], Blind(field)
        ring = (("a",), ("b",), ("c",), ("d",))
        self.assertEqual(blind.shortest_ring(told), ring)
        self.assertEqual(blind.shortest_ring(told, most=4), ring)
        for most in [1, 2, 3]:
            self.assertIsNone(blind.shortest_ring(told, most=most))
        # From a fuller start another ring comes earlier.
        told = [standing_of("0: 1 0 0 0 / 2")]
        self.assertEqual(blind.shortest_ring(told), shortest_by_words(field, told, 4))

    def test_most(self):
        blind, fits = Blind(TIGHT), standing_of("0: 3 3 / 3")
        for most in [0, 5, -1, 100] + OTHER_VALUES:
            found, attributes = error_of(lambda: blind.shortest_ring([fits], most=most))
            self.assertIs(found, BadNumber)
            self.assertEqual(attributes["what"], "most")
            self.assertIs(attributes["value"], most)
            found, attributes = error_of(lambda: blind.shortest_ring([fits, UNFIT[1]], most=most))
            self.assertIs(found, BadStanding)
        with self.assertRaises(TypeError):
            blind.shortest_ring([fits], 3)


class BlindTest(unittest.TestCase):
    def test_the_attribute(self):
        self.assertTrue(Blind(TIGHT).field == TIGHT)

    def test_nothing_is_changed(self):
        blind = Blind(EASY)
        told = [standing_of("0: 3 / 2"), standing_of("0: 1 / 1"), standing_of("0: 3 / 2")]
        ahead, ring = [[], ["a"]], [["a"]]
        before = copy.deepcopy((told, ahead, ring))
        results = [(texts(blind.after(told, ring[0]).least), blind.keeps(told), blind.rounds(told),
                    blind.holds(told, ahead, ring), blind.shortest_ring(told)) for _ in range(2)]
        self.assertEqual(results[0], results[1])
        self.assertEqual((told, ahead, ring), before)

    def test_only_the_least_standings_count(self):
        pick = random.Random(68)
        for field, told in some_cases(60, 69):
            more = told + [row for row in field.standings() if any(low <= row for low in told) and pick.random() < 0.5]
            pick.shuffle(more)
            blind = Blind(field)
            self.assertEqual(error_of(blind.keeps, told), error_of(blind.keeps, more))
            if error_of(blind.keeps, told) is None:
                self.assertEqual(blind.rounds(told), blind.rounds(more))


if __name__ == "__main__":
    unittest.main()
