"""Points 72 to 74: the channel, and what points 2 and 3 say of it."""

import random
import unittest

from helper import OTHER_VALUES, error_of, raised
from samples import EASY, TIGHT, WET, OddBook, field_of, some_book, some_fields, standing_of
from waterbyturns.books import DaysBook, RankBook
from waterbyturns.channel import Channel
from waterbyturns.errors import (BadDeed, BadName, BadNumber, BadStanding, BadTurn, DriedOut, NothingToUndo, Unlike,
                                 WaterError)
from waterbyturns.field import Standing
from waterbyturns.safe import Safe

UNFIT = [Standing([0], 0, 0), Standing([4, 0], 0, 0), Standing([0, 0], 4, 0), Standing([0, 0], 0, 1)]
# Nothing dries much, so that long runs can be played.
CALM = field_of([("b", 3, 2), ("a", 3, 1)], [["a", "b"]], 3, [([1, 0], [0, 0], 2, 0), ([0, 0], [1, 0], 0, 0)])


def state(channel):
    return str(channel.present), channel.days, channel.history()


def cause_of(call, *values):
    """The place that BadDeed tells, and the error behind it: its class and its attributes."""
    try:
        call(*values)
    except BadDeed as error:
        assert vars(error) == {"place": error.place}
        return error.place, (type(error.__cause__), vars(error.__cause__))


class PresentTest(unittest.TestCase):
    def test_a_new_run(self):
        start, other = standing_of("0: 3 3 / 3"), standing_of("0: 2 1 / 0")
        channel = Channel(CALM, start)
        self.assertTrue(channel.field == CALM)
        self.assertEqual(state(channel), ("0: 3 3 / 3", 0, []))
        for renew in [channel.begin, lambda row: setattr(channel, "present", row)]:
            channel.play(["a"], 0)
            channel.play(["b"], 1)
            self.assertEqual(channel.days, 2)
            self.assertIsNone(renew(other))
            self.assertEqual(state(channel), ("0: 2 1 / 0", 0, []))
            self.assertEqual(error_of(channel.undo), raised(NothingToUndo))
            self.assertEqual([channel.missed(name) for name in "ab"], [0, 0])

    def test_standings_that_do_not_fit(self):
        channel = Channel(TIGHT, standing_of("0: 3 3 / 3"))
        channel.play(["a"], 1)
        before = state(channel)
        for unfit in UNFIT:
            for call in [lambda row: Channel(TIGHT, row), channel.begin, lambda row: setattr(channel, "present", row)]:
                found, attributes = error_of(call, unfit)
                self.assertIs(found, BadStanding)
                self.assertIs(attributes["standing"], unfit)
                self.assertEqual(state(channel), before)
        channel.undo()
        self.assertEqual(state(channel), ("0: 3 3 / 3", 0, []))


class PlayTest(unittest.TestCase):
    def test_play_and_undo(self):
        pick, played = random.Random(111), 0
        for field in some_fields(60, 112):
            rows = list(field.standings())
            channel = Channel(field, pick.choice(rows))
            passed = [(None, None, channel.present)]
            for _ in range(12):
                turn = pick.choice(field.ground.turns() + [("z",), field.ground.names[:1] * 2])
                day = pick.choice([0, 0, 1, 2, -1])
                error = error_of(field.after, channel.present, turn, day)
                if error is None:
                    later = field.after(channel.present, turn, day)
                    self.assertEqual(channel.play(list(turn)[::-1], day), later)
                    passed.append((turn, day, later))
                    played += 1
                else:
                    self.assertEqual(error_of(channel.play, turn, day), error)
                count = pick.choice([0, 0, 0, 1, 2])
                if 0 < count < len(passed):
                    del passed[-count:]
                    self.assertEqual(channel.undo(count), passed[-1][2])
                self.assertEqual(channel.present, passed[-1][2])
                self.assertEqual(channel.days, len(passed) - 1)
                self.assertEqual(channel.history(), [row[:2] for row in passed[1:]])
        self.assertGreater(played, 100)

    def test_errors_of_play(self):
        channel = Channel(TIGHT, standing_of("0: 0 1 / 3"))
        for turn, day, error in [(["x", "b", "b"], 9, raised(BadName, name="x")), (["a", "b"], 9, raised(BadTurn, turn=("a", "b"))),
                                 (["a"], 2, raised(BadNumber, what="day", value=2)), ([], -1, raised(BadNumber, what="day", value=-1)),
                                 ([], 0, raised(DriedOut, plot="a", day=0)), (["b"], 1, raised(DriedOut, plot="a", day=0))]:
            self.assertEqual(error_of(channel.play, turn, day), error)
            self.assertEqual(state(channel), ("0: 0 1 / 3", 0, []))
        channel.play(["a"], 1)
        channel.play([], 1)
        # The run is two days old, but one day alone has the number 0.
        self.assertEqual(error_of(channel.play, [], 0), raised(DriedOut, plot="a", day=0))
        self.assertEqual(channel.days, 2)

    def test_the_turns_of_the_history(self):
        channel = Channel(CALM, standing_of("0: 1 1 / 3"))
        turn = ["a", "b"]
        self.assertEqual(str(channel.play(turn, 0)), "0: 2 2 / 2")
        turn.append("b")
        channel.play((), 1)
        self.assertEqual(channel.history(), [(("b", "a"), 0), ((), 1)])
        channel.history().clear()
        self.assertEqual(channel.history(), [(("b", "a"), 0), ((), 1)])

    def test_undo(self):
        channel = Channel(WET, standing_of("0: 0 0 / 1"))
        self.assertEqual(error_of(channel.undo), raised(NothingToUndo))
        for _ in range(1000):
            channel.play([], 0)
        self.assertEqual(channel.days, 1000)
        for count in [0, -1, 1000, 10 ** 9] + OTHER_VALUES:
            found, attributes = error_of(channel.undo, count)
            self.assertEqual((found, attributes["what"]), (BadNumber, "count"))
            self.assertIs(attributes["value"], count)
        self.assertEqual(channel.undo(999), standing_of("0: 0 1 / 1"))
        self.assertEqual(channel.days, 1)
        for count in [2, 999]:
            self.assertEqual(error_of(channel.undo, count), raised(NothingToUndo))
        self.assertEqual(error_of(channel.undo, 1000), raised(BadNumber, what="count", value=1000))
        self.assertEqual(channel.days, 1)
        self.assertEqual(channel.undo(count=1), standing_of("0: 0 0 / 1"))
        self.assertEqual(error_of(channel.undo, 0), raised(BadNumber, what="count", value=0))


class AllOrNoneTest(unittest.TestCase):
    def test_play_all(self):
        pick, found = random.Random(113), {True: 0, False: 0}
        for field in some_fields(150, 114):
            start = pick.choice(list(field.standings()))
            one, two = Channel(field, start), Channel(field, start)
            if error_of(one.play, (), 0) is None:
                two.play((), 0)
            deeds = [(pick.choice(field.ground.turns() + [("z",)]), pick.choice([0, 0, 1])) for _ in range(pick.randint(0, 4))]
            before, bad = state(two), None
            for place, deed in enumerate(deeds):
                error = error_of(one.play, *deed)
                if error is not None:
                    bad = (place, error)
                    break
            self.assertEqual(cause_of(two.play_all, *deeds), bad)
            self.assertEqual(state(two), state(one) if bad is None else before)
            found[bad is None] += 1
            if bad is None:
                self.assertEqual(Channel(field, start).play_all(), start)
                self.assertEqual(two.play_all(), two.present)
        self.assertGreater(min(found.values()), 20)

    def test_play_all_by_hand(self):
        channel = Channel(TIGHT, standing_of("0: 3 3 / 3"))
        self.assertEqual(str(channel.play_all((["a"], 1), [["b"], 0])), "0: 1 2 / 3")
        before = state(channel)
        for deeds, place, error in [([(["a"], 0), (["b"], 7)], 1, raised(BadNumber, what="day", value=7)),
                                    ([([], 0), ([], 0), (["x"], 0)], 1, raised(DriedOut, plot="a", day=0)),
                                    ([(["a", "b"], 0)], 0, raised(BadTurn, turn=("a", "b"))),
                                    ([(["a"], 0), ([], 1), (["x"], 0)], 2, raised(BadName, name="x"))]:
            self.assertEqual(cause_of(channel.play_all, *deeds), (place, error))
            self.assertEqual(state(channel), before)
        self.assertEqual(str(channel.undo(2)), "0: 3 3 / 3")

    def test_follow(self):
        pick, found = random.Random(115), {True: 0, False: 0}
        for field in some_fields(150, 116):
            start, book = pick.choice(list(field.standings())), some_book(pick, field)
            one, two = Channel(field, start), Channel(field, start)
            if error_of(one.play, (), 0) is None:
                two.play((), 0)
            days = [pick.choice([0, 0, 1, 2]) for _ in range(pick.randint(0, 5))]
            before, bad = state(two), None
            for place, day in enumerate(days):
                error = error_of(one.play, book(field, one.present, one.days), day)
                if error is not None:
                    bad = (place, error)
                    break
            self.assertEqual(cause_of(two.follow, book, *days), bad)
            self.assertEqual(state(two), state(one) if bad is None else before)
            found[bad is None] += 1
        self.assertGreater(min(found.values()), 20)

    def test_follow_by_hand(self):
        channel = Channel(EASY, standing_of("0: 3 / 0"))
        book = DaysBook([], [], ["a"])
        self.assertEqual(str(channel.follow(book, 0)), "0: 2 / 1")
        # The book goes on with the number of days gone.
        self.assertEqual(str(channel.follow(book, 0, 0)), "0: 2 / 1")
        self.assertEqual(channel.history(), [((), 0), ((), 0), (("a",), 0)])
        before = state(channel)
        self.assertEqual(channel.follow(book), channel.present)
        self.assertEqual(cause_of(channel.follow, book, 0, 1, 0), (1, raised(BadNumber, what="day", value=1)))
        self.assertEqual(cause_of(channel.follow, DaysBook([]), 0, 0, 0, 9), (2, raised(DriedOut, plot="a", day=0)))
        self.assertEqual(state(channel), before)
        self.assertEqual(str(channel.follow(OddBook(), 0, 0)), "0: 1 / 2")
        self.assertEqual(channel.history()[3:], [(("a",), 0), ((), 0)])

    def test_follow_checks_the_book_first(self):
        channel = Channel(TIGHT, standing_of("0: 3 3 / 3"))
        for days in [[], [0], [9]]:
            self.assertEqual(error_of(channel.follow, RankBook("a", "x"), *days), raised(BadName, name="x"))
            self.assertEqual(error_of(channel.follow, DaysBook(["a"], ["b", "a"]), *days), raised(BadTurn, turn=("b", "a")))
        self.assertEqual(state(channel), ("0: 3 3 / 3", 0, []))

    def test_books_that_raise_errors(self):
        class Stubborn(OddBook):
            def __call__(self, field, standing, day=0):
                if day == 2:
                    raise WaterError("not today")
                return ()

        channel = Channel(EASY, standing_of("0: 3 / 0"))
        self.assertEqual(cause_of(channel.follow, Stubborn(), 0, 0, 0), (2, raised(WaterError)))
        self.assertEqual(state(channel), ("0: 3 / 0", 0, []))


class AdviceTest(unittest.TestCase):
    def test_advice(self):
        safe = Safe(TIGHT)
        for row in TIGHT.standings():
            channel = Channel(TIGHT, row)
            self.assertEqual(channel.advice(safe), safe.turns(row))
            channel.advice(safe).append("x")
            self.assertEqual(channel.advice(safe), safe.turns(row))
        again = field_of([("a", 3, 2), ("b", 3, 2)], [["a"], ["b"]], 3, [([1, 1], [0, 0], 2, 0), ([1, 0], [0, 0], 1, 0)])
        self.assertEqual(Channel(again, row).advice(safe), safe.turns(row))

    def test_other_fields(self):
        channel = Channel(TIGHT, standing_of("0: 3 3 / 3"))
        other = field_of([("a", 3, 2), ("b", 3, 2)], [["a"], ["b"]], 3, [([1, 1], [0, 0], 2, 0), ([1, 0], [0, 0], 2, 0)])
        for field in [other, EASY, WET]:
            self.assertEqual(error_of(channel.advice, Safe(field)), raised(Unlike))

    def test_missed(self):
        channel = Channel(CALM, standing_of("0: 3 3 / 3"))
        for turn, missed in [((), [1, 1]), (("a",), [2, 0]), (("b",), [0, 1]), ((), [1, 2]), (("a", "b"), [0, 0]), ((), [1, 1])]:
            channel.play(turn, 1)
            self.assertEqual([channel.missed(name) for name in "ba"], missed)
        channel.undo(4)
        self.assertEqual([channel.missed(name) for name in "ba"], [2, 0])
        for name in ["c", "", "A", 3]:
            self.assertEqual(error_of(channel.missed, name), raised(BadName, name=name))
        channel.begin(channel.present)
        self.assertEqual([channel.missed(name) for name in "ba"], [0, 0])
        self.assertEqual(error_of(channel.missed, "c"), raised(BadName, name="c"))


if __name__ == "__main__":
    unittest.main()
