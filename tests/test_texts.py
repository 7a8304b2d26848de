"""Points 69 to 71: texts of fields, standings and books, written by the program and by others."""

import random
import re
import unittest

from helper import error_of, raised
from samples import DRY, EASY, TIGHT, WET, field_of, some_book, some_fields, standing_of
from waterbyturns.books import AskingBook, DaysBook, DriestBook, ElseBook, RankBook
from waterbyturns.errors import BadName, BadNumber, BadText, BadTurn, TooMany
from waterbyturns.field import Field, Standing
from waterbyturns.ground import Gates, Ground, Plot
from waterbyturns.texts import read_book, read_field, read_standing, write_field
from waterbyturns.weather import Day, Weather

NUMBER = "(0|[1-9][0-9]{0,3})"
NUMBERS = f"{NUMBER}( {NUMBER})*"
LINES = {
    "p": re.compile(f"plot [^ ]+ {NUMBER} {NUMBER}"),
    "g": re.compile("gate( [^ ]+)+"),
    "t": re.compile(f"tank {NUMBER}"),
    "m": re.compile("mood"),
    "d": re.compile(f"day {NUMBERS} \\| {NUMBERS} \\| {NUMBER} \\| {NUMBER}"),
}
# The kinds of the lines of a text that can still be continued, and of a whole one.
BEGUN = re.compile("p*|p+g*|p+g*t(md+)*m?")
WHOLE = re.compile("p+g*t(md+)+")

TEXT = """plot b 3 2
plot a 2 1
gate a b
gate b
tank 4
mood
day 1 0 | 0 3 | 5 | 1
day 0 2 | 0 0 | 0 | 0
mood
day 1 1 | 0 0 | 2 | 0
"""


def bad_line_by_words(text):
    """Point 70: the line that BadText tells, or None."""
    *lines, rest = text.split("\n")
    kinds = ""
    for number, line in enumerate(lines):
        kinds += next((kind for kind, form in LINES.items() if form.fullmatch(line)), "?")
        if not BEGUN.fullmatch(kinds):
            return number + 1
    return None if rest == "" and WHOLE.fullmatch(kinds) else len(lines) + 1


def made_by_words(text):
    """The field of a text with the right form, made in the order of point 70."""
    rows = [line.split(" ") for line in text.splitlines()]
    plots = [Plot(row[1], int(row[2]), int(row[3])) for row in rows if row[0] == "plot"]
    gates = Gates(*[row[1:] for row in rows if row[0] == "gate"])
    ground = Ground(plots, gates, *[int(row[1]) for row in rows if row[0] == "tank"])
    moods = []
    for line in text.splitlines():
        if line == "mood":
            moods.append([])
        if line.startswith("day"):
            dry, rain, fill, mood = [[int(word) for word in part.split()] for part in line[4:].split(" | ")]
            moods[-1].append(Day(dry, rain, *fill, *mood))
    return Field(ground, Weather(*moods))


def bad_text(line):
    return raised(BadText, line=line)


def bad(what, value):
    return raised(BadNumber, what=what, value=value)


def changed_text(pick, text):
    """The text with something changed in one or two places."""
    for _ in range(pick.choice([1, 1, 2])):
        lines = text.split("\n")
        at = pick.randrange(len(lines))
        kind = pick.randrange(9)
        if kind == 0:
            del lines[at]
        elif kind == 1:
            lines.insert(at, pick.choice(lines + ["", " ", "mood ", "tank", "plot a 1", "gate", "rain 1", "day"]))
        elif kind == 2:
            other = pick.randrange(len(lines))
            lines[at], lines[other] = lines[other], lines[at]
        elif kind == 3:
            lines = lines[:at]
        elif kind == 4:
            words = lines[at].split(" ")
            words[pick.randrange(len(words))] = pick.choice(["", "9", "0", "10", "9999", "10000", "01", "|", "-1", "+", "a",
                                                             "mood", "Ab", "00", "1.0", "abcdefghi", "1_0"])
            lines[at] = " ".join(words)
        elif kind == 5:
            words = lines[at].split(" ")
            words.insert(pick.randrange(len(words) + 1), pick.choice(["", "1", "|", "a"]))
            lines[at] = " ".join(words)
        elif kind == 6:
            words = lines[at].split(" ")
            del words[pick.randrange(len(words))]
            lines[at] = " ".join(words)
        elif kind == 7:
            lines[at] += pick.choice([" ", "x", "1", " 1", " |"])
        else:
            lines = lines[:-1]
        text = "\n".join(lines)
    return text


class FieldTextTest(unittest.TestCase):
    def test_written_texts(self):
        field = field_of([("b", 3, 2), ("a", 2, 1)], [["b"], ["b", "a"], ["a", "b"], []], 4,
                         [([1, 0], [0, 3], 5, 1), ([0, 2], [0, 0], 0, 0)], [([1, 1], [0, 0], 2, 0)])
        self.assertEqual(write_field(field), TEXT.replace("gate b\n", ""))
        self.assertEqual(write_field(EASY), "plot a 3 2\ngate a\ntank 2\nmood\nday 1 | 0 | 1 | 0\n")
        self.assertEqual(write_field(field_of([("a", 8, 8)], [], 0, [([0], [8], 0, 0)])),
                         "plot a 8 8\ntank 0\nmood\nday 0 | 8 | 0 | 0\n")

    def test_what_is_written_is_read_back(self):
        for field in some_fields(150, 101) + [EASY, TIGHT, WET, DRY]:
            text = write_field(field)
            self.assertIsNone(bad_line_by_words(text))
            again = read_field(text)
            self.assertTrue(again == field)
            self.assertEqual(write_field(again), text)

    def test_plots_that_are_called_like_the_lines(self):
        words = ["mood", "day", "tank", "gate"]
        for names in [words, words[::-1], ["plot", "rank"], ["days", "asking", "driest"]]:
            calm = [0] * len(names)
            field = field_of([(name, 2, 1) for name in names], [[name] for name in names] + [names[:2]], 2,
                             [(calm, calm, 0, 1), (calm, calm, 1, 0)], [(calm, calm, 2, 0)])
            self.assertIsNone(bad_line_by_words(write_field(field)))
            self.assertTrue(read_field(write_field(field)) == field)

    def test_gates_in_any_order(self):
        text = "plot a 1 1\nplot b 1 1\ngate b\ngate b a\ngate a\ngate b\ntank 1\nmood\nday 0 0 | 0 0 | 0 | 0\n"
        self.assertTrue(read_field(text) == field_of([("a", 1, 1), ("b", 1, 1)], [["a", "b"]], 1,
                                                     [([0, 0], [0, 0], 0, 0)]))
        text = "plot a 1 1\nplot b 1 1\ngate b\ngate a\ntank 1\nmood\nday 0 0 | 0 0 | 0 | 0\n"
        self.assertEqual(read_field(text).ground.gates.groups, (("a",), ("b",)))

    def test_texts_of_others(self):
        pick = random.Random(102)
        found = {}
        sources = [TEXT] * 10 + [write_field(field) for field in some_fields(20, 103)]
        for _ in range(6000):
            text = changed_text(pick, pick.choice(sources))
            line = bad_line_by_words(text)
            if line is not None:
                self.assertEqual(error_of(read_field, text), bad_text(line), text)
            else:
                error = error_of(made_by_words, text)
                self.assertEqual(error_of(read_field, text), error, text)
                if error is None:
                    self.assertTrue(read_field(text) == made_by_words(text))
                line = "right" if error is None else error[0]
            found[line] = found.get(line, 0) + 1
        self.assertGreaterEqual(set(found), {"right", BadName, BadNumber, BadTurn, *range(1, 11)})

    def test_a_wrong_line_at_each_place(self):
        lines = TEXT.splitlines(keepends=True)
        for at, line in enumerate(lines):
            for wrong in ["\n", " \n", "rain 1\n", "Plot a 1 1\n", line.replace("\n", " \n"), " " + line, "gate\n",
                          line.replace(" ", "  ") if " " in line else "mood mood\n", "plot x 1\n", "tank\n", "day\n",
                          "plot x 01 1\n", "plot x 1 10000\n", "tank 1 1\n", "tank x\n", "plot  1 1\n", "moods\n"]:
                text = "".join([*lines[:at], wrong, *lines[at + 1:]])
                self.assertEqual(error_of(read_field, text), bad_text(at + 1), text)
                self.assertEqual(error_of(read_field, text[:-1]), bad_text(at + 1), text)

    def test_wrong_days(self):
        for wrong in ["day", "day |", "day 1 | 1 | 1", "day 1 | 1 | 1 | 1 | 1", "day 1 | 1 | 1 1 | 1", "day 1 | 1 | 1 | 1 1",
                      "day | 1 | 1 | 1", "day 1 | | 1 | 1", "day 1 | 1 | | 1", "day 1 | 1 | 1 |", "day 1 || 1 | 1 | 1",
                      "day 1| 1 | 1 | 1", "day 1 1 1 1", "day 1 |1 | 1 | 1", "day | | |", "day 1 | 1 | 1 | 01", "day a | 1 | 1 | 1",
                      "day 1 | 1 | 1 | 1 ", "day 1  | 1 | 1 | 1", "day 1 | 1 | 1 | 1 |"]:
            text = f"plot a 1 1\ntank 1\nmood\n{wrong}\n"
            self.assertEqual(error_of(read_field, text), bad_text(4), wrong)

    def test_texts_that_end_too_early(self):
        lines = TEXT.splitlines(keepends=True)
        for count in range(len(lines)):
            text = "".join(lines[:count])
            # After the first mood with its days the text is whole already.
            whole = count in (7, 8)
            self.assertEqual(error_of(read_field, text) == bad_text(count + 1), not whole)
            if count:
                self.assertEqual(error_of(read_field, text[:-1]), bad_text(count))
        self.assertEqual(error_of(read_field, TEXT[:-1]), bad_text(10))
        self.assertEqual(error_of(read_field, ""), bad_text(1))
        self.assertEqual(error_of(read_field, "\n"), bad_text(1))
        self.assertEqual(error_of(read_field, TEXT + "\n"), bad_text(11))
        self.assertEqual(error_of(read_field, TEXT + "m"), bad_text(11))
        self.assertEqual(error_of(read_field, TEXT + "mood"), bad_text(11))
        self.assertEqual(error_of(read_field, TEXT + "mood\n"), bad_text(12))
        self.assertEqual(error_of(read_field, "plot a 1\nplot a 1 1"), bad_text(1))

    def test_the_order_of_the_lines(self):
        plot, gate, tank, mood, day = "plot a 1 1\n", "gate a\n", "tank 1\n", "mood\n", "day 0 | 0 | 0 | 0\n"
        for lines, line in [([gate], 1), ([tank], 1), ([mood], 1), ([day], 1), ([plot, mood], 2), ([plot, day], 2),
                            ([plot, gate, plot], 3), ([plot, gate, mood], 3), ([plot, tank, tank], 3), ([plot, tank, gate], 3),
                            ([plot, tank, plot], 3), ([plot, tank, day], 3), ([plot, tank, mood, mood], 4),
                            ([plot, tank, mood, tank], 4), ([plot, tank, mood, day, tank], 5),
                            ([plot, tank, mood, day, gate], 5), ([plot, tank, mood, day, plot], 5)]:
            self.assertEqual(error_of(read_field, "".join(lines + [mood, day])), bad_text(line))

    def test_the_order_of_the_constructors(self):
        good = ["plot a 2 1", "plot b 2 1", "gate a", "gate b", "tank 2", "mood", "day 0 0 | 0 0 | 0 | 0", "mood",
                "day 0 0 | 0 0 | 0 | 0"]
        # Each change is refused by a later constructor than the one behind it.
        changes = [("mood", "mood\nday 0 0 0 | 0 0 0 | 0 | 0", bad("plots", 2)),
                   ("mood", "mood" + "\nday 0 0 | 0 0 | 0 | 0" * 6, bad("days", 7)),
                   ("mood", "mood\nday 0 0 | 0 0 | 0 | 0\n" * 4 + "mood", bad("moods", 6)),
                   ("day 0 0 | 0 0 | 0 | 0", "day 0 0 | 0 0 | 0 | 4", bad("mood", 4)),
                   ("day 0 0 | 0 0 | 0 | 0", "day 0 0 | 0 0 | 9 | 4", bad("fill", 9)),
                   ("day 0 0 | 0 0 | 0 | 0", "day 0 0 | 0 9999 | 9 | 4", bad("rain", 9999)),
                   ("day 0 0 | 0 0 | 0 | 0", "day 0 0 | 0 | 9 | 4", bad("plots", 1)),
                   ("day 0 0 | 0 0 | 0 | 0", "day 0 9 | 0 | 9 | 4", bad("dry", 9)),
                   ("day 0 0 | 0 0 | 0 | 0", "day 0 0 0 0 9 | 0 | 9 | 4", bad("plots", 5)),
                   ("tank 2", "tank 9", bad("tank", 9)),
                   ("gate b", "gate b\ngate x", raised(BadName, name="x")),
                   ("plot b 2 1", "plot a 2 1", raised(BadName, name="a")),
                   ("plot b 2 1", "plot b 2 1" + "\nplot b 2 1" * 3, bad("plots", 5)),
                   ("gate a", "gate a a", raised(BadTurn, turn=("a", "a"))),
                   ("gate a", "gate a a Z", raised(BadName, name="Z")),
                   ("plot b 2 1", "plot b 2 9", bad("drink", 9)),
                   ("plot b 2 1", "plot b 0 9", bad("hold", 0)),
                   ("plot b 2 1", "plot abcdefghi 9 9", raised(BadName, name="abcdefghi")),
                   ("plot a 2 1", "plot | 2 1", raised(BadName, name="|"))]
        for first in range(len(changes)):
            for second in [None, *range(first)]:
                lines = list(good)
                for line, other, _ in [changes[first]] + ([changes[second]] if second is not None else []):
                    if line in lines:
                        lines[lines.index(line)] = other
                text = "\n".join(lines) + "\n"
                self.assertIsNone(bad_line_by_words(text))
                self.assertEqual(error_of(read_field, text), changes[first][2], text)
        text = "plot a 8 1\nplot b 8 1\nplot c 8 1\nplot d 8 1\ntank 0\nmood\n"
        self.assertEqual(error_of(read_field, text + "day 0 | 0 | 0 | 0\n"), bad("plots", 1))
        self.assertEqual(error_of(read_field, text + "day 0 0 0 0 | 0 0 0 0 | 0 | 0\n"), raised(TooMany, limit=6000))

    def test_forms_without_an_upper_limit(self):
        plots = "".join(f"plot {name} 1 1\n" for name in "abcdefghijklm")
        rest = "tank 0\nmood\nday 0 | 0 | 0 | 0\n"
        self.assertEqual(error_of(read_field, plots + rest), bad("plots", 13))
        self.assertEqual(error_of(read_field, "plot a 1 1\n" + "gate a\n" * 50 + rest), None)
        self.assertEqual(error_of(read_field, "plot a 1 1\n" + rest + "mood\nday 0 | 0 | 0 | 0\n" * 20), bad("moods", 21))
        self.assertEqual(error_of(read_field, "plot a 1 1\n" + rest + "day 0 | 0 | 0 | 0\n" * 20), bad("days", 21))
        names = " ".join("abcdefghijklmnopqrstuvwxyz")
        self.assertEqual(error_of(read_field, f"plot a 1 1\ngate {names}\n" + rest), raised(BadName, name="b"))
        self.assertEqual(error_of(read_field, "plot a!-9 1 1\n" + rest), raised(BadName, name="a!-9"))


class StandingTextTest(unittest.TestCase):
    def test_what_is_written_is_read_back(self):
        for field in some_fields(40, 104):
            for row in field.standings():
                self.assertTrue(read_standing(str(row)) == row)
        self.assertTrue(read_standing("0: 2 3 / 1") == Standing([2, 3], 1, 0))
        self.assertTrue(read_standing("3: 8 0 8 0 / 8") == Standing([8, 0, 8, 0], 8, 3))

    def test_other_texts(self):
        for text in ["", "0", "0:", "0: / 1", "0: 1", "0: 1 /", "0: 1 / ", " 0: 1 / 1", "0: 1 / 1 ", "0:  1 / 1", "0: 1  / 1",
                     "0: 1 /  1", "0 : 1 / 1", "0 1 / 1", "0:1 / 1", "0: 1/1", "0: 1 / 1\n", "0:\n1 / 1", ": 1 / 1",
                     "00: 1 / 1", "0: 01 / 1", "0: 1 / 01", "a: 1 / 1", "0: a / 1", "0: 1 / a", "0: 1 / 1 1", "0: 1 1",
                     "0: 1 / / 1", "0:: 1 / 1", "0: -1 / 1", "0: 1 / -1", "-1: 1 / 1", "10000: 1 / 1", "0: 10000 / 1",
                     "0: 1 / 10000", "0: 1 \\ 1", "0: 1 1 1 1 1 1 /", "0: 1 | 1", "0: 1 / 1\n\n", "\n0: 1 / 1", "0; 1 / 1"]:
            self.assertEqual(error_of(read_standing, text), bad_text(1), text)

    def test_values_out_of_range(self):
        for text, error in [("4: 1 1 1 1 1 / 9", bad("plots", 5)), ("4: 9 1 / 9", bad("level", 9)), ("4: 8 1 / 9", bad("tank", 9)),
                            ("4: 8 1 / 8", bad("mood", 4)), ("9999: 8 / 8", bad("mood", 9999)),
                            ("0: 1 9999 / 8", bad("level", 9999)), ("0: 1 2 3 4 5 6 7 / 8", bad("plots", 7))]:
            self.assertEqual(error_of(read_standing, text), error)


class BookTextTest(unittest.TestCase):
    def test_what_is_written_is_read_back(self):
        pick = random.Random(105)
        for field in some_fields(300, 106):
            book = some_book(pick, field)
            for _ in range(pick.randint(0, 3)):
                book = book | some_book(pick, field)
            again = read_book(str(book))
            self.assertTrue(again == book)
            self.assertEqual((str(again), again.period, type(again)), (str(book), book.period, type(book)))
            for row in list(field.standings())[::7]:
                for day in range(3):
                    self.assertEqual(again(field, row, day), book(field, row, day))

    def test_books_by_hand(self):
        cases = [("days a", DaysBook(["a"])), ("days -", DaysBook([])), ("days b+a - a", DaysBook(["b", "a"], [], ["a"])),
                 ("driest", DriestBook()), ("driest b a", DriestBook("b", "a")), ("rank", RankBook()),
                 ("rank a days", RankBook("a", "days")), ("asking", AskingBook()),
                 ("asking b:0 a:7", AskingBook(("b", 0), ("a", 7))),
                 ("rank a | days - | driest", RankBook("a") | (DaysBook([]) | DriestBook()))]
        for text, book in cases:
            self.assertTrue(read_book(text) == book)
            self.assertIs(type(read_book(text)), type(book))
            self.assertEqual(str(read_book(text)), text)
        self.assertIsInstance(read_book("rank | rank"), ElseBook)

    def test_other_texts(self):
        for text in ["", " ", "days", "days ", " days a", "days  a", "days a ", "day a", "Days a", "driest ", "driest a  b", "rank a ",
                     "rank\n", "asking a", "asking a:", "asking a:x", "asking a:01", "asking a:-1", "asking a:10000", "asking a:1:2",
                     "asking a :1", "asking a: 1", "asking :", "|", " | ", "days a | ", " | days a", "days a |  | days a",
                     "days a | | days b", "days a |", "driest | ", "a | b", "driest  | rank", "driest |  rank", "asking a:1 ",
                     "asking a:7\n", "driest|rank"]:
            if text == "days a |":
                # The bar has no space behind it, so it stands where a turn may stand.
                self.assertEqual(error_of(read_book, text), raised(BadName, name="|"))
            else:
                self.assertEqual(error_of(read_book, text), bad_text(1), text)

    def test_errors_of_the_constructors(self):
        cases = [("days a+", raised(BadName, name="")), ("days +", raised(BadName, name="")), ("days a+-", raised(BadName, name="-")),
                 ("days a --", raised(BadName, name="--")), ("days a+b+a b+C", raised(BadTurn, turn=("a", "b", "a"))),
                 ("days b+C a+a", raised(BadName, name="C")), ("days a\n", raised(BadName, name="a\n")),
                 ("days" + " -" * 13, bad("turns", 13)), ("driest a b A", raised(BadName, name="A")),
                 ("driest a b a", raised(BadName, name="a")), ("rank a b c d e", bad("names", 5)),
                 ("rank a-b", raised(BadName, name="a-b")), ("asking a:8 a:9", bad("level", 8)),
                 ("asking a:1 a:9", raised(BadName, name="a")), ("asking :1", raised(BadName, name="")),
                 ("asking A:9999", raised(BadName, name="A")), ("asking a:1 b:1 c:1 d:1 E:9", bad("names", 5)),
                 ("driest a:1", raised(BadName, name="a:1")), ("rank a |", raised(BadName, name="|"))]
        for text, error in cases:
            self.assertEqual(error_of(read_book, text), error, text)
        self.assertIsNone(error_of(read_book, "days" + " -" * 12))

    def test_part_by_part(self):
        for text, error in [("rank A | days", raised(BadName, name="A")), ("days | rank A", bad_text(1)),
                            ("asking A:1 b", bad_text(1)), ("asking a:9 b:x", bad_text(1)),
                            ("rank a | asking A:1 | asking b", raised(BadName, name="A"))]:
            self.assertEqual(error_of(read_book, text), error, text)

    def test_the_errors_of_joined_books_come_last_and_from_the_left(self):
        ring = {size: "days" + " -" * size for size in range(1, 13)}
        eight = " | ".join(["rank"] * 8)
        self.assertIsNone(error_of(read_book, eight))
        self.assertEqual(error_of(read_book, f"{eight} | rank"), raised(TooMany, limit=8))
        self.assertEqual(error_of(read_book, f"{eight} | rank | days"), bad_text(1))
        self.assertEqual(error_of(read_book, f"{eight} | rank | rank A"), raised(BadName, name="A"))
        self.assertIsNone(error_of(read_book, f"{ring[5]} | {ring[12]}"))
        self.assertEqual(read_book(f"{ring[5]} | {ring[12]}").period, 60)
        long = f"{ring[7]} | {ring[9]}"
        self.assertEqual(error_of(read_book, long), raised(TooMany, limit=60))
        self.assertEqual(error_of(read_book, f"{long} | {eight}"), raised(TooMany, limit=60))
        self.assertEqual(error_of(read_book, f"{eight} | {long}"), raised(TooMany, limit=8))
        self.assertEqual(error_of(read_book, f"{long} | driest A"), raised(BadName, name="A"))


class TextsTest(unittest.TestCase):
    def test_reading_makes_objects_of_its_own(self):
        one, two = read_field(TEXT), read_field(TEXT)
        one.ground.resize(0)
        self.assertEqual(two.ground.capacity, 4)
        self.assertTrue(read_standing("0: 1 / 1") == standing_of("0: 1 / 1"))


if __name__ == "__main__":
    unittest.main()
