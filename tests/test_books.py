"""Points 39 to 43: written books, and what point 2 says of them."""

import itertools
import unittest

from helper import OTHER_VALUES, error_of, raised
from samples import EASY, TIGHT, OddBook, field_of, some_fields, standing_of
from waterbyturns.books import AskingBook, Book, DaysBook, DriestBook, ElseBook, RankBook
from waterbyturns.errors import BadName, BadNumber, BadStanding, BadTurn, TooMany
from waterbyturns.field import Standing

DAY = [([0, 0, 0], [0, 0, 0], 0, 0)]
# b and a may be served together, and a and c; the order of the ground is c, a, b.
THREE = field_of([("c", 3, 1), ("a", 3, 1), ("b", 2, 1)], [["a", "b"], ["a", "c"]], 2, DAY)
BAD_NAMES = ["", "A", "a1", "toolongname", "a b"] + OTHER_VALUES


def wanted_by_words(book, field, standing, order):
    """Point 41: the wanted plots of a book with this order (or rows)."""
    rows = [(plot.name, level, plot.hold) for plot, level in zip(field.ground.plots, standing.levels)]
    level = {name: units for name, units, _ in rows}
    full = {name for name, units, hold in rows if units == hold}
    if isinstance(book, AskingBook):
        return [name for name, most in order if level[name] <= most]
    names = [name for name in order if name not in full]
    if isinstance(book, DriestBook):
        return sorted(names, key=lambda name: (level[name], names.index(name)))
    return names


def turn_by_words(book, field, standing, order):
    """Point 41: the turn of a greedy book."""
    turn = []
    for name in wanted_by_words(book, field, standing, order):
        if any(set(turn + [name]) <= set(group) for group in field.ground.gates.groups):
            turn.append(name)
            if isinstance(book, RankBook):
                break
    return tuple(name for name in field.ground.names if name in turn)


def orders(names):
    return [row for size in range(len(names) + 1) for row in itertools.permutations(names, size)]


class DaysBookTest(unittest.TestCase):
    def test_the_turns_come_one_after_the_other(self):
        turns = [["b", "a"], (), ("c",), ["a", "c"], ("b",)]
        for count in range(1, 6):
            book = DaysBook(*turns[:count])
            self.assertEqual(book.period, count)
            for day in range(14):
                for standing in [standing_of("0: 0 0 0 / 0"), standing_of("0: 3 3 2 / 2")]:
                    expected = THREE.ground.turn_of(turns[day % count])
                    self.assertEqual(book(THREE, standing, day), expected)
                    self.assertEqual(book(THREE, standing, day=day), expected)
            self.assertEqual(book(THREE, standing_of("0: 0 0 0 / 0")), ("a", "b"))

    def test_large_days(self):
        book = DaysBook(["a"], ["b"], [])
        self.assertEqual(book(THREE, standing_of("0: 0 0 0 / 0"), 3 * 10 ** 30 + 1), ("b",))

    def test_the_number_of_turns(self):
        for count in [1, 11, 12]:
            self.assertEqual(DaysBook(*[["a"]] * count).period, count)
        for count in [0, 13, 14, 40]:
            self.assertEqual(error_of(DaysBook, *[["A"]] * count), raised(BadNumber, what="turns", value=count))

    def test_names_and_repeated_names(self):
        for name in BAD_NAMES:
            kind, attributes = error_of(DaysBook, ["a"], ["b", name])
            self.assertIs(kind, BadName)
            self.assertIs(attributes["name"], name)
        self.assertEqual(error_of(DaysBook, ["a", "a"], ["A"]), raised(BadTurn, turn=("a", "a")))
        self.assertEqual(error_of(DaysBook, ["a", "a", "A"]), raised(BadName, name="A"))
        self.assertEqual(error_of(DaysBook, [], ["b"], ["b", "a", "b"]), raised(BadTurn, turn=("b", "a", "b")))
        self.assertEqual(error_of(DaysBook, ["A"], ["a", "a"]), raised(BadName, name="A"))

    def test_check(self):
        self.assertIsNone(DaysBook(["a", "b"], [], ["c", "a"]).check(THREE))
        self.assertEqual(error_of(DaysBook(["a"], ["x"], ["b", "c"]).check, THREE), raised(BadName, name="x"))
        self.assertEqual(error_of(DaysBook(["a"], ["b", "c"], ["x"]).check, THREE), raised(BadTurn, turn=("b", "c")))
        self.assertEqual(error_of(DaysBook(["c", "b", "x"]).check, THREE), raised(BadName, name="x"))
        self.assertEqual(error_of(DaysBook(["c", "b", "a"]).check, THREE), raised(BadTurn, turn=("c", "b", "a")))

    def test_passed_lists_are_copied(self):
        first, second = ["a", "b"], ["c"]
        book = DaysBook(first, second)
        first.clear()
        second.append("a")
        self.assertEqual(str(book), "days a+b c")
        self.assertEqual(book(THREE, standing_of("0: 0 0 0 / 0"), 1), ("c",))


class GreedyBooksTest(unittest.TestCase):
    def test_driest_and_rank_books(self):
        for field in [THREE] + some_fields(25, 4):
            for kind, names in itertools.product([DriestBook, RankBook], orders(field.ground.names)):
                book = kind(*names)
                self.assertEqual(book.period, 1)
                for standing in field.standings():
                    turn = turn_by_words(book, field, standing, names)
                    self.assertEqual(book(field, standing), turn)
                self.assertEqual(book(field, standing, 7), turn)

    def test_asking_books(self):
        for place, field in enumerate([THREE] + some_fields(25, 5)):
            for at, names in enumerate(orders(field.ground.names)):
                rows = [(name, (at + 2 * k + place) % 8 if k % 2 else (at + k) % 3) for k, name in enumerate(names)]
                book = AskingBook(*rows)
                self.assertEqual(book.period, 1)
                for standing in field.standings():
                    self.assertEqual(book(field, standing, 3), turn_by_words(book, field, standing, rows))

    def test_turns_that_are_told_by_hand(self):
        cases = [
            (DriestBook("a", "b", "c"), {"1 1 1": ("a", "b"), "0 1 1": ("c", "a"), "1 2 0": ("a", "b"),
                                         "3 3 1": ("b",), "3 3 2": (), "0 0 0": ("a", "b"), "1 2 2": ("c", "a")}),
            (DriestBook("c"), {"0 0 0": ("c",), "3 0 0": ()}),
            (DriestBook(), {"0 0 0": ()}),
            (RankBook("b", "c", "a"), {"0 0 0": ("b",), "0 0 2": ("c",), "3 0 2": ("a",), "3 3 2": ()}),
            (RankBook(), {"0 0 0": ()}),
            (AskingBook(("b", 2), ("a", 1), ("c", 7)), {"0 2 2": ("b",), "0 1 2": ("a", "b"), "3 3 0": ("b",)}),
            (AskingBook(("c", 7), ("b", 7), ("a", 0)), {"3 0 0": ("c", "a"), "3 1 2": ("c",)}),
            (AskingBook(("a", 0)), {"0 0 0": ("a",), "0 1 0": ()}),
            (AskingBook(), {"0 0 0": ()}),
        ]
        for book, turns in cases:
            for levels, turn in turns.items():
                self.assertEqual(book(THREE, standing_of(f"0: {levels} / 0")), turn, (str(book), levels))

    def test_plots_that_no_gate_lets_through(self):
        field = field_of([("a", 2, 1), ("b", 2, 1)], [["b"]], 1, [([0, 0], [0, 0], 0, 0)])
        standing = standing_of("0: 0 1 / 1")
        for book in [DriestBook("a", "b"), RankBook("a", "b"), AskingBook(("a", 1), ("b", 1))]:
            self.assertEqual(book(field, standing), ("b",))
        for book in [DriestBook("a"), RankBook("a"), AskingBook(("a", 1))]:
            self.assertEqual(book(field, standing), ())

    def test_a_rank_book_gives_one_plot_though_the_gates_allow_more(self):
        self.assertEqual(RankBook("a", "b")(THREE, standing_of("0: 0 0 0 / 0")), ("a",))

    def test_plots_that_hold_8(self):
        field = field_of([("a", 8, 8), ("b", 8, 8)], [["a", "b"]], 0, [([0, 0], [0, 0], 0, 0)])
        book = DriestBook("a", "b")
        self.assertEqual(book(field, standing_of("0: 8 7 / 0")), ("b",))
        self.assertEqual(book(field, standing_of("0: 7 8 / 0")), ("a",))
        self.assertEqual(AskingBook(("a", 7), ("b", 7))(field, standing_of("0: 8 7 / 0")), ("b",))

    def test_the_number_of_names(self):
        names = ["a", "b", "c", "d", "e", "f"]
        for count in range(5):
            for book in [DriestBook(*names[:count]), RankBook(*names[:count]),
                         AskingBook(*[(name, 1) for name in names[:count]])]:
                self.assertEqual(book.period, 1)
        for count in [5, 6]:
            wrong = ["A"] + names[:count - 1]
            for call, values in [(DriestBook, wrong), (RankBook, wrong), (AskingBook, [(name, 9) for name in wrong])]:
                self.assertEqual(error_of(call, *values), raised(BadNumber, what="names", value=count))

    def test_names_that_are_wrong_or_given_before(self):
        for kind in [DriestBook, RankBook]:
            for name in BAD_NAMES + ["a", "b"]:
                found, attributes = error_of(kind, "a", "b", name)
                self.assertIs(found, BadName)
                self.assertIs(attributes["name"], name)
            self.assertEqual(error_of(kind, "a", "a", "A"), raised(BadName, name="a"))
            self.assertEqual(error_of(kind, "a", "A", "a"), raised(BadName, name="A"))

    def test_rows_of_asking_books(self):
        for level in [-1, 8, 9, 100] + OTHER_VALUES:
            found, attributes = error_of(AskingBook, ("a", 7), ("b", level), ("A", 0))
            self.assertIs(found, BadNumber)
            self.assertEqual(attributes["what"], "level")
            self.assertIs(attributes["value"], level)
        for level in [0, 1, 7]:
            self.assertEqual(str(AskingBook(("a", level))), f"asking a:{level}")
        for name in BAD_NAMES + ["a"]:
            found, attributes = error_of(AskingBook, ("a", 7), (name, 8), ("b", 8))
            self.assertIs(found, BadName)
            self.assertIs(attributes["name"], name)
        self.assertEqual(error_of(AskingBook, ("a", 8), ("a", 0)), raised(BadNumber, what="level", value=8))

    def test_check(self):
        good = [DriestBook("b", "c", "a"), RankBook("a"), AskingBook(("c", 0)), DriestBook(), RankBook(), AskingBook()]
        for book in good:
            self.assertIsNone(book.check(THREE))
        bad = [DriestBook("b", "x", "y"), RankBook("x", "b", "y"), AskingBook(("b", 1), ("x", 0), ("y", 0))]
        for book in bad:
            self.assertEqual(error_of(book.check, THREE), raised(BadName, name="x"))

    def test_passed_rows_are_copied(self):
        row = ["a", 1]
        book = AskingBook(row)
        row[1] = 5
        self.assertEqual(str(book), "asking a:1")


class CallTest(unittest.TestCase):
    BOOKS = [DaysBook(["x"]), DriestBook("x"), AskingBook(("x", 1)), RankBook("x"), DaysBook(["a"]) | DriestBook("x"),
             DriestBook("x") | DaysBook(["a"])]

    def test_the_standing_then_the_day_then_the_check(self):
        fits = standing_of("0: 1 1 / 1")
        for book in self.BOOKS:
            for standing in [Standing([1], 1, 0), Standing([1, 4], 1, 0), Standing([1, 1], 4, 0), Standing([1, 1], 1, 1)]:
                found, attributes = error_of(book, TIGHT, standing, -1)
                self.assertIs(found, BadStanding)
                self.assertIs(attributes["standing"], standing)
            for day in [-1, -10 ** 9] + OTHER_VALUES:
                found, attributes = error_of(book, TIGHT, fits, day)
                self.assertIs(found, BadNumber)
                self.assertEqual(attributes["what"], "day")
                self.assertIs(attributes["value"], day)
            for day in [0, 1, 10 ** 20]:
                self.assertEqual(error_of(book, TIGHT, fits, day), raised(BadName, name="x"))
            self.assertEqual(error_of(book, TIGHT, fits), raised(BadName, name="x"))

    def test_an_unfit_turn_of_another_day(self):
        self.assertEqual(error_of(DaysBook(["a"], ["b", "a"]), TIGHT, standing_of("0: 1 1 / 1"), 0),
                         raised(BadTurn, turn=("b", "a")))


class ElseBookTest(unittest.TestCase):
    def test_the_second_book_gives_where_the_first_gives_nothing(self):
        first, second = DaysBook(["a"], [], []), DaysBook(["b"], ["c"])
        book = first | second
        self.assertIsInstance(book, ElseBook)
        self.assertIsInstance(book, Book)
        self.assertEqual(book.period, 6)
        low = standing_of("0: 0 0 0 / 0")
        self.assertEqual([book(THREE, low, day) for day in range(7)],
                         [("a",), ("c",), ("b",), ("a",), ("b",), ("c",), ("a",)])
        self.assertEqual(book(THREE, low), ("a",))

    def test_the_standing_moves_the_turn(self):
        book = AskingBook(("b", 0)) | DriestBook("c", "a")
        for standing in THREE.standings():
            first = AskingBook(("b", 0))(THREE, standing)
            self.assertEqual(book(THREE, standing), first or DriestBook("c", "a")(THREE, standing))

    def test_the_class_and_the_sign_do_the_same(self):
        one, two = DaysBook([], ["a"]), RankBook("c")
        for book in [one | two, ElseBook(one, two)]:
            self.assertEqual((str(book), book.period), ("days - a | rank c", 2))
            self.assertEqual(book(THREE, standing_of("0: 0 0 0 / 0"), 0), ("c",))

    def test_both_ways_of_putting_together(self):
        books = [DaysBook([], ["a"]), DaysBook([], [], ["b"]), DriestBook("c")]
        left, right = (books[0] | books[1]) | books[2], books[0] | (books[1] | books[2])
        self.assertEqual(str(left), "days - a | days - - b | driest c")
        self.assertEqual(str(left), str(right))
        self.assertTrue(left == right)
        self.assertEqual((left.period, right.period), (6, 6))
        for standing in THREE.standings():
            for day in range(7):
                self.assertEqual(left(THREE, standing, day), right(THREE, standing, day))

    def test_the_period(self):
        def empty(count):
            return DaysBook(*[[]] * count)

        for one, two, period in [(1, 1, 1), (4, 6, 12), (12, 5, 60), (10, 12, 60), (7, 8, 56), (6, 10, 30)]:
            self.assertEqual((empty(one) | empty(two)).period, period)
        for one, two in [(7, 9), (8, 9), (7, 10), (11, 12), (9, 12)]:
            expected = None if (one, two) == (9, 12) else raised(TooMany, limit=60)
            self.assertEqual(error_of(ElseBook, empty(one), empty(two)), expected)
        self.assertEqual(error_of(ElseBook, empty(12) | empty(10), empty(7)), raised(TooMany, limit=60))
        self.assertEqual(error_of(ElseBook, OddBook(1), OddBook(61)), raised(TooMany, limit=60))
        self.assertEqual(ElseBook(OddBook(60), OddBook(1)).period, 60)

    def test_the_number_of_written_books(self):
        book = RankBook("a")
        for count in range(2, 9):
            book = book | RankBook("b")
        self.assertEqual(str(book).count("|"), 7)
        four = DriestBook() | DriestBook() | DriestBook() | DriestBook()
        self.assertEqual(str(four | four).count("|"), 7)
        for one, two in [(book, four), (book, RankBook()), (RankBook(), book), (four | four, four)]:
            self.assertEqual(error_of(ElseBook, one, two), raised(TooMany, limit=8))
        # Too many books come before too long a period.
        long = DaysBook(*[[]] * 11) | DaysBook(*[[]] * 5)
        seven = four | RankBook() | RankBook() | DaysBook(*[[]] * 12)
        self.assertEqual(error_of(ElseBook, seven, long), raised(TooMany, limit=8))
        self.assertEqual(error_of(ElseBook, seven, DaysBook(*[[]] * 11)), raised(TooMany, limit=60))

    def test_check_looks_at_the_first_book_first(self):
        cases = [(DaysBook(["x"]), DaysBook(["y"])), (DriestBook("x"), DaysBook(["b", "c"])),
                 (DriestBook("a"), RankBook("x"))]
        for one, two in cases:
            self.assertEqual(error_of((one | two).check, THREE), raised(BadName, name="x"))
        self.assertEqual(error_of((DaysBook(["b", "c"]) | RankBook("x")).check, THREE), raised(BadTurn, turn=("b", "c")))
        self.assertIsNone((DaysBook(["b"]) | RankBook("c")).check(THREE))

    def test_books_that_this_program_did_not_make(self):
        low = standing_of("0: 0 0 0 / 0")
        for book, turns in [(OddBook() | RankBook("c"), [("c",), ("a",), ("c",)]),
                            (DaysBook([], [], ["b"]) | OddBook(), [(), ("a",), ("b",), ("a",)])]:
            self.assertEqual([book(THREE, low, day) for day in range(len(turns))], turns)
        self.assertEqual(str(OddBook() | RankBook("c")), "odd | rank c")
        self.assertEqual((OddBook() | DaysBook([], [], [])).period, 6)
        other = field_of([("b", 1, 1)], [], 0, [([0], [0], 0, 0)])
        self.assertEqual(error_of((DaysBook([]) | OddBook()).check, other), raised(BadName, name="a"))

    def test_other_values(self):
        with self.assertRaises(TypeError):
            RankBook("a") | "rank b"


class TextTest(unittest.TestCase):
    def test_texts(self):
        for book, text in [
                (DaysBook(["b", "a"], (), ["c"]), "days b+a - c"), (DaysBook([]), "days -"),
                (DriestBook("b", "a"), "driest b a"), (DriestBook(), "driest"),
                (RankBook("c"), "rank c"), (RankBook(), "rank"),
                (AskingBook(("b", 0), ("a", 7)), "asking b:0 a:7"), (AskingBook(), "asking"),
                (RankBook() | AskingBook() | DaysBook([]), "rank | asking | days -")]:
            self.assertEqual(str(book), text)

    def test_equal_books_have_equal_texts(self):
        books = [DaysBook(["a"]), DaysBook(["a"], ["a"]), DaysBook(["a", "b"]), DaysBook(["b", "a"]), DriestBook("a"),
                 DriestBook("a", "b"), DriestBook("b", "a"), RankBook("a"), AskingBook(("a", 1)), AskingBook(("a", 2)),
                 DriestBook(), RankBook(), AskingBook(), DaysBook([]), RankBook("a") | DriestBook("a"),
                 DriestBook("a") | RankBook("a")]
        for one, two in itertools.product(books, repeat=2):
            self.assertIs(one == two, str(one) == str(two))
            self.assertIs(one == two, one is two)
        self.assertTrue(DaysBook(["a"], []) == DaysBook(("a",), ()))
        self.assertTrue(ElseBook(RankBook("a"), DriestBook("a")) == books[14])
        self.assertFalse(RankBook() == "rank")
        self.assertTrue(OddBook(1) == OddBook(2))

    def test_all_books_are_books(self):
        for kind in [DaysBook, DriestBook, AskingBook, RankBook, ElseBook]:
            self.assertTrue(issubclass(kind, Book))
            for name in ["__call__", "check", "__str__"]:
                self.assertIn(name, vars(kind))


class LimitsTest(unittest.TestCase):
    def test_a_book_changes_nothing(self):
        standing = standing_of("0: 1 / 1")
        book = DriestBook("a")
        self.assertEqual(book(EASY, standing), ("a",))
        self.assertEqual(book(EASY, standing), ("a",))
        self.assertEqual(str(standing), "0: 1 / 1")
        EASY.ground.turns().clear()
        self.assertEqual(book(EASY, standing), ("a",))


if __name__ == "__main__":
    unittest.main()
