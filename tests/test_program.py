"""Points 1 to 4 and 77 over the whole program: the parts beside each other, from one field."""

import copy
import importlib
import itertools
import pathlib
import random
import unittest

from helper import error_of, raised
from samples import some_book, some_fields, texts
from waterbyturns.blind import Blind
from waterbyturns.books import DriestBook
from waterbyturns.channel import Channel
from waterbyturns.compare import faults, right
from waterbyturns.console import console
from waterbyturns.errors import BadDeed, NothingFits, WaterError
from waterbyturns.field import Field
from waterbyturns.judged import Judged
from waterbyturns.least import cheapest_gates, least_rain, least_tank, misses
from waterbyturns.looks import Looks, told_back
from waterbyturns.papers import check_lost, check_safe, covers, lost_paper, safe_paper
from waterbyturns.plans import check_loss, check_plan
from waterbyturns.safe import Safe
from waterbyturns.sight import Sight, Watch
from waterbyturns.spilled import check_spill, spill_paper, spilled
from waterbyturns.texts import read_book, read_field, read_standing, write_field

PACKAGE = pathlib.Path(__file__).resolve().parent.parent / "waterbyturns"
FIELDS = some_fields(60, 131)


class ModulesTest(unittest.TestCase):
    def test_the_modules_of_the_interface(self):
        names = """errors words ground weather field upsets rounds safe papers books judged compare sight plans blind least
            spilled looks texts channel console""".split()
        for name in names:
            self.assertTrue(importlib.import_module(f"waterbyturns.{name}").__doc__)
        self.assertLessEqual(set(names), {path.stem for path in PACKAGE.glob("*.py")})

    def test_no_clock_no_chance_and_no_files(self):
        words = ["time", "random", "datetime", "secrets", "os", "pathlib", "socket", "print(", "input("]
        for path in PACKAGE.glob("*.py"):
            lines = path.read_text(encoding="utf-8").splitlines()
            for line in [line for line in lines if line.startswith(("import", "from"))]:
                self.assertRegex(line, r"^from (waterbyturns\.\w+|math) import ")
                self.assertFalse([word for word in words if word in line.split()], path)
            self.assertFalse([line for line in lines if "print(" in line], path)


class WholeTest(unittest.TestCase):
    def test_from_a_text_to_papers(self):
        for field in FIELDS:
            again = read_field(write_field(field))
            one, two = Safe(field), Safe(again)
            self.assertTrue(one.least == two.least)
            kept, lost = safe_paper(one), lost_paper(two)
            self.assertTrue(check_safe(again, kept) == one.least)
            self.assertEqual(check_lost(field, lost), [one.rank(standing) for standing, _ in lost])
            self.assertIs(covers(again, kept, lost), True)

    def test_what_is_safe_agrees(self):
        pick = random.Random(132)
        for field in FIELDS:
            safe = Safe(field)
            ground, weather = field.ground, field.weather
            groups = [(list(group), 1) for group in ground.gates.groups]
            for start in pick.sample(list(field.standings()), min(3, field.size)):
                kept = safe.keeps(start)
                self.assertIs(least_rain(ground, weather, start) == 0, kept)
                self.assertIs(least_tank(ground, weather, start) in range(ground.capacity + 1), kept)
                self.assertIs(cheapest_gates(ground, weather, start, groups) is not None, kept)
                console_says = console(field, [f"start {','.join(map(str, [*start.levels, start.tank, start.mood]))}", "safe"])
                self.assertEqual(console_says[0], str(start))
                self.assertIs(console_says[1].startswith("safe"), kept)
                self.assertIs(Channel(field, start).advice(safe) != [], kept)
                if kept:
                    self.assertIsNone(misses(safe, start))
                if error_of(Blind(field).keeps, [start]) is None and Blind(field).keeps([start]):
                    self.assertTrue(kept)

    def test_books_agree_with_runs(self):
        pick = random.Random(133)
        for field in FIELDS:
            book = read_book(str(some_book(pick, field)))
            judged, safe = Judged(field, book), Safe(field)
            self.assertIs(right(safe, judged), faults(safe, judged) == [])
            start = read_standing(str(pick.choice(list(field.standings()))))
            channel = Channel(field, start)
            drying = judged.drying(start)
            looks = Looks(field, book, [start])
            if drying is not None:
                self.assertEqual(error_of(channel.follow, book, *drying), raised(BadDeed, place=len(drying) - 1))
                self.assertEqual(channel.days, 0)
                continue
            self.assertTrue(check_spill(judged, start, spill_paper(judged, start)))
            rows, total = [start], 0
            for _ in range(6):
                day = pick.randrange(len(field.weather[channel.present.mood]))
                total += field.spill(channel.present, book(field, channel.present, channel.days), day)
                rows.append(channel.follow(book, day))
                looks.pass_day()
                self.assertIn(str(rows[-1]), texts(looks.possible()))
            least, most = spilled(judged, start, 6)
            self.assertTrue(least <= total <= most)
            self.assertEqual(told_back(field.ground, [field.weather], [book], rows), [(0, 0)])

    def test_hands_that_see_little(self):
        pick, counts = random.Random(134), {True: 0, False: 0}
        for field in FIELDS:
            told = pick.sample(list(field.standings()), min(2, field.size))
            watch = Watch(field, Sight())
            if error_of(watch.keeps, told) is not None:
                continue
            kept = watch.keeps(told)
            counts[kept] += 1
            self.assertIs(Blind(field).keeps(told), kept)
            if kept:
                self.assertTrue(check_plan(field, Sight(), told, watch.plan(told)))
                self.assertTrue(Blind(field).holds(told, *Blind(field).rounds(told)))
            else:
                self.assertEqual(check_loss(field, Sight(), told, watch.loss(told)), watch.rank(told))
        self.assertGreater(min(counts.values()), 10)


class ChangesTest(unittest.TestCase):
    def test_calls_that_only_change_or_check_return_nothing(self):
        for field in FIELDS[:10]:
            start = field.standing_at(field.size - 1)
            ground = field.ground.with_tank(3)
            book = DriestBook(*ground.names)
            channel, looks = Channel(field, start), Looks(field, book, [start])
            self.assertIsNone(ground.resize(4))
            self.assertIsNone(book.check(field))
            self.assertIsNone(channel.begin(start))
            self.assertIsNone(looks.look({}))
            if error_of(looks.pass_day) is None:
                self.assertEqual(looks.day, 1)
            self.assertIn(error_of(looks.pass_day), [None, raised(NothingFits, day=looks.day)])

    def test_a_ground_that_is_resized_later(self):
        for field in FIELDS[:20]:
            ground = field.ground.with_tank(field.ground.capacity)
            mine = Field(ground, field.weather)
            start = mine.standing_at(mine.size - 1)
            channel, looks, blind = Channel(mine, start), Looks(mine, DriestBook(), [start]), Blind(mine)
            before = copy.deepcopy([texts(mine.standings()), texts(looks.possible()), str(channel.present)])
            ground.resize(8)
            ground.capacity = 0
            self.assertEqual([texts(mine.standings()), texts(looks.possible()), str(channel.present)], before)
            self.assertTrue(mine == field and blind.field == field)
            self.assertEqual(write_field(mine), write_field(field))

    def test_errors_of_the_program_are_value_errors(self):
        for module, name in itertools.product(["errors"], ["BadDeed", "BadText", "NothingFits", "NotSafe"]):
            found = getattr(importlib.import_module(f"waterbyturns.{module}"), name)
            self.assertEqual(found.__bases__, (WaterError,))
            self.assertTrue(issubclass(found, ValueError))


if __name__ == "__main__":
    unittest.main()
