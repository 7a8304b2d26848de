"""Points 75 and 76: the console."""

import random
import unittest

from samples import DRY, EASY, TIGHT, WET, field_of, some_fields
from waterbyturns.channel import Channel
from waterbyturns.console import console
from waterbyturns.errors import BadName, BadNumber, BadStanding, BadTurn, DriedOut, NothingToUndo
from waterbyturns.field import Standing
from waterbyturns.safe import Safe

START = "start 3,3,3,0"
WORDS = {BadName: "name", BadTurn: "turn", BadNumber: "number", BadStanding: "standing", DriedOut: "dry",
         NothingToUndo: "nothing"}


def answered_by_words(field, lines):
    """The answers to lines of the right form, made with a channel."""
    channel, safe, answers = None, Safe(field), []
    for line in lines:
        command, *rest = line.split(" ")
        if channel is None and command not in ("start", "least"):
            answers.append("norun")
            continue
        try:
            if command == "start":
                *levels, tank, mood = [int(part) for part in rest[0].split(",")]
                channel = Channel(field, Standing(levels, tank, mood))
                answers.append(str(channel.present))
            elif command == "play":
                turn = [] if rest[0] == "-" else rest[0].split("+")
                answers.append(str(channel.play(turn, int(rest[1]))))
            elif command == "undo":
                answers.append(str(channel.undo()))
            elif command == "safe":
                turns = channel.advice(safe)
                answers.append(f"safe {'+'.join(turns[0]) or '-'}" if turns else f"lost in {safe.rank(channel.present)}")
            elif command == "least":
                answers.append(str(len(safe.least)))
            else:
                rows = zip(field.ground.plots, channel.present.levels)
                answers.append("\n".join(plot.name.ljust(8) + str(level).rjust(3) + "/" + str(plot.hold)
                                         for plot, level in rows))
        except tuple(WORDS) as error:
            answers.append(WORDS[type(error)])
    return answers


def some_line(pick, field):
    parts = [str(pick.randint(0, plot.hold)) for plot in field.ground.plots]
    parts += [str(pick.randint(0, field.ground.capacity)), str(pick.randrange(len(field.weather)))]
    if pick.random() < 0.2:
        parts[pick.randrange(len(parts))] = pick.choice(["0", "3", "5", "8", "9", "9999"])
    turn = pick.choice(["-", *field.ground.names, "+".join(field.ground.names), "z", "a+a", "a+", "+", "-+a", "A"])
    return pick.choice(["start " + ",".join(parts), f"play {turn} {pick.choice([0, 0, 1, 1, 3])}", "play - 0",
                        "undo", "safe", "least", "table", "undo", "safe"])


class ConsoleTest(unittest.TestCase):
    def test_runs(self):
        pick, found = random.Random(121), {}
        for field in some_fields(120, 122) + [EASY, TIGHT, WET, DRY] * 10:
            lines = [some_line(pick, field) for _ in range(25)]
            answers = console(field, lines)
            self.assertEqual(answers, answered_by_words(field, lines))
            for answer in answers:
                self.assertIsInstance(answer, str)
                found[answer.split(" ")[0]] = found.get(answer.split(" ")[0], 0) + 1
        for word in ["norun", *WORDS.values(), "safe", "lost", "0:", "1:"]:
            self.assertGreater(found.get(word, 0), 10, word)

    def test_by_hand(self):
        field = field_of([("abcdefgh", 8, 2), ("a", 3, 2)], [["abcdefgh"], ["a"], ["a", "abcdefgh"]], 3,
                         [([1, 1], [0, 0], 2, 1), ([1, 0], [0, 0], 1, 0)], [([0, 1], [0, 0], 2, 0)])
        lines = ["start 8,2,3,0", "table", "play a 1", "play abcdefgh+a 0", "table", "play a+abcdefgh 0", "undo", "play - 1",
                 "undo", "undo", "undo", "undo", "start 2,3,1,0", "start 0,0,0,1", "safe", "play - 0", "table"]
        self.assertEqual(console(field, lines),
                         ["0: 8 2 / 3", "abcdefgh  8/8\na         2/3", "0: 7 3 / 3", "1: 7 2 / 3",
                          "abcdefgh  7/8\na         2/3", "0: 8 2 / 3", "1: 7 2 / 3", "number", "0: 7 3 / 3",
                          "0: 8 2 / 3", "nothing", "nothing", "0: 2 3 / 1", "1: 0 0 / 0", "lost in 1", "dry",
                          "abcdefgh  0/8\na         0/3"])

    def test_safe_and_least(self):
        self.assertEqual(console(EASY, ["least", "start 0,1,0", "safe", "start 0,0,0", "safe", "start 3,2,0", "safe"]),
                         ["2", "0: 0 / 1", "safe a", "0: 0 / 0", "lost in 1", "0: 3 / 2", "safe -"])
        self.assertEqual(console(WET, ["start 0,0,0,0", "safe", "least"]), ["0: 0 0 / 0", "safe -", "1"])
        self.assertEqual(console(DRY, ["least", "start 2,2,2,0", "safe"]), ["0", "0: 2 2 / 2", "lost in 5"])

    def test_no_lines(self):
        self.assertEqual(console(EASY, []), [])
        self.assertEqual(console(EASY, ()), [])

    def test_unknown(self):
        for line in ["", " ", "stop", "Start 3,3,3,0", " undo", "undo\n", "tables", "0", "start,3", "-", "help  me", " start 3,3,3,0"]:
            self.assertEqual(console(TIGHT, [line, START, line]), ["unknown", "0: 3 3 / 3", "unknown"])

    def test_form(self):
        for line in ["start", "start ", "start  3,3,3,0", "start 3,3,3,0 ", "start 3,3,3,0 1", "start 3,3,3", "start 3,3,3,0,0",
                     "start 3,3,,0", "start ,3,3,0", "start 3,3,3,0,", "start 3,3,3,00", "start 3,3,3,-1", "start 3,3,3,a",
                     "start 3;3;3;0", "start 10000,3,3,0", "start 3", "start 3,3,3,+0", "play", "play a", "play a ", "play  0", "play  a 0",
                     "play a  0", "play a 0 ", "play a 0 0", "play a 00", "play a 01", "play a -1", "play a x", "play a 10000",
                     "play 0 a", "play z 1.0", "play + x", "undo ", "undo 1", "undo  ", "safe ", "safe a", "least ", "least 1",
                     "least a b", "table ", "table 0", "table a"]:
            self.assertEqual(console(TIGHT, [line, START, line]), ["form", "0: 3 3 / 3", "form"], line)

    def test_no_run(self):
        for line in ["play a 0", "play z 9999", "play + 0", "play - 1", "undo", "safe", "table"]:
            self.assertEqual(console(TIGHT, [line, "start 9,9,9,9", line, "start 3,3,3,1", line]),
                             ["norun", "number", "norun", "standing", "norun"])
        self.assertEqual(console(TIGHT, ["least"]), [str(len(Safe(TIGHT).least))])

    def test_the_rest(self):
        for line, answer in [("start 9,3,3,0", "number"), ("start 3,3,9,0", "number"), ("start 3,3,3,4", "number"),
                             ("start 3,9999,3,0", "number"), ("start 4,3,3,0", "standing"), ("start 3,3,4,0", "standing"),
                             ("start 3,3,3,1", "standing"), ("start 4,3,3,4", "number"), ("play z 0", "name"), ("play a+ 0", "name"),
                             ("play + 0", "name"), ("play a++b 9", "name"), ("play -+a 0", "name"), ("play a+- 0", "name"),
                             ("play a+a+z 9", "name"), ("play A 0", "name"), ("play a+b 9", "turn"), ("play b+b 9", "turn"),
                             ("play a 2", "number"), ("play - 9999", "number"), ("play a,b 0", "name"), ("play -- 0", "name")]:
            before = ["start 1,0,0,0", "play a 1"]
            self.assertEqual(console(TIGHT, [START, line, "safe"]), ["0: 3 3 / 3", answer, "safe -"])
            self.assertEqual(console(TIGHT, [*before, line, "table", "undo", "undo"]),
                             ["0: 1 0 / 0", "0: 0 0 / 1", answer, "a         0/3\nb         0/3", "0: 1 0 / 0", "nothing"])
        self.assertEqual(console(TIGHT, ["start 0,0,0,0", "play - 0", "play a 1", "undo"]),
                         ["0: 0 0 / 0", "dry", "dry", "nothing"])

    def test_each_console_begins_anew(self):
        self.assertEqual(console(TIGHT, [START]), ["0: 3 3 / 3"])
        self.assertEqual(console(TIGHT, ["undo"]), ["norun"])
        lines = [START, "undo"]
        console(TIGHT, lines)
        self.assertEqual(lines, [START, "undo"])


if __name__ == "__main__":
    unittest.main()
