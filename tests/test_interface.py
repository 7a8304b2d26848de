"""The names, arguments and methods that the interface lists, each in its own file and class (points 2 and 3 too)."""

import importlib
import inspect
import unittest

# For each module: its functions with their arguments, and its classes with their methods.
FUNCTIONS = {
    "words": {"is_name": "text", "check_name": "text", "check_number": "what, value, low, high",
              "read_number": "text"},
    "rounds": {"ranks": "game", "good_options": "game, found, node", "spoilers": "game, found, node"},
    "papers": {"safe_paper": "safe", "check_safe": "field, rows", "lost_paper": "safe", "check_lost": "field, rows",
               "covers": "field, safe_rows, lost_rows"},
    "compare": {"faults": "safe, judged", "right": "safe, judged", "never_worse": "first, second",
                "better_at": "first, second", "difference": "first, second, standing", "alike": "first, second"},
    "plans": {"check_plan": "field, sight, standings, rows", "check_loss": "field, sight, standings, rows"},
    "least": {"least_tank": "ground, weather, start", "least_rain": "ground, weather, start",
              "cheapest_gates": "ground, weather, start, menu", "misses": "safe, standing, *plots"},
    "spilled": {"spilled": "judged, standing, days", "spill_paper": "judged, standing",
                "check_spill": "judged, standing, paper"},
    "looks": {"told_back": "ground, weathers, books, rows"},
    "texts": {"write_field": "field", "read_field": "text", "read_standing": "text", "read_book": "text"},
    "console": {"console": "field, lines"},
}
BOOK = {"__call__": "self, field, standing, day=0", "check": "self, field", "__str__": "self"}
CLASSES = {
    "ground": {
        "Plot": {"__init__": "self, name, hold, drink", "__eq__": None},
        "Gates": {"__init__": "self, *groups", "__contains__": None, "__le__": None, "__eq__": None, "__or__": None,
                  "__and__": None, "__len__": None},
        "Ground": {"__init__": "self, plots, gates, tank", "__eq__": None, "resize": "self, size",
                   "with_tank": "self, size", "with_gates": "self, gates", "turns": "self",
                   "turn_of": "self, names", "place_of": "self, name"},
    },
    "weather": {
        "Day": {"__init__": "self, dry, rain, fill, mood", "__eq__": None, "__le__": None, "__add__": None},
        "Weather": {"__init__": "self, *moods", "__eq__": None, "__len__": None, "__getitem__": None,
                    "__add__": None, "__radd__": None, "lean": "self"},
    },
    "field": {
        "Standing": {"__init__": "self, levels, tank, mood", "__eq__": None, "__le__": None, "__str__": None},
        "Field": {"__init__": "self, ground, weather", "__eq__": None, "fits": "self, standing",
                  "number": "self, standing", "standing_at": "self, number", "watered": "self, standing, turn",
                  "after": "self, standing, turn, day", "spill": "self, standing, turn, day",
                  "moves": "self, standing, turn", "run": "self, standing, turns, days", "standings": "self"},
    },
    "upsets": {
        "UpSet": {"__init__": "self, standings", "__contains__": None, "__le__": None, "__eq__": None,
                  "__or__": None, "__and__": None, "__len__": None, "count_in": "self, field"},
    },
    "safe": {
        "Safe": {"__init__": "self, field", "keeps": "self, standing", "turns": "self, standing",
                 "first_turn": "self, standing", "rank": "self, standing", "longest": "self"},
    },
    "books": {
        "Book": {"__or__": None, "__eq__": None},
        "DaysBook": {"__init__": "self, *turns", **BOOK},
        "DriestBook": {"__init__": "self, *order", **BOOK},
        "AskingBook": {"__init__": "self, *rows", **BOOK},
        "RankBook": {"__init__": "self, *order", **BOOK},
        "ElseBook": {"__init__": "self, first, second", **BOOK},
    },
    "judged": {
        "Judged": {"__init__": "self, field, book", "keeps": "self, standing, *, day=0", "kept": "self, *, day=0",
                   "rank": "self, standing, *, day=0", "drying": "self, standing, *, day=0",
                   "harm": "self, *, day=0", "watering_harm": "self, *, day=0"},
    },
    "sight": {
        "Sight": {"__init__": "self, *plots, tank=False, mood=False, every=1", "__le__": None,
                  "seen": "self, field, standing"},
        "Watch": {"__init__": "self, field, sight", "keeps": "self, standings", "rank": "self, standings",
                  "plan": "self, standings", "loss": "self, standings"},
    },
    "blind": {
        "Blind": {"__init__": "self, field", "after": "self, standings, turn", "keeps": "self, standings",
                  "rounds": "self, standings", "holds": "self, standings, ahead, ring",
                  "shortest_ring": "self, standings, *, most=4"},
    },
    "looks": {
        "Looks": {"__init__": "self, field, book, standings", "possible": "self", "look": "self, levels, *, tank=None",
                  "pass_day": "self", "span": "self, name"},
    },
    "channel": {
        "Channel": {"__init__": "self, field, standing", "begin": "self, standing", "play": "self, turn, day",
                    "undo": "self, count=1", "history": "self", "play_all": "self, *deeds",
                    "follow": "self, book, *days", "advice": "self, safe", "missed": "self, name"},
    },
}
PROPERTIES = [("ground", "Ground", "capacity", True), ("field", "Field", "size", False),
              ("channel", "Channel", "present", True)]
STATIC = [("weather", "Weather", "steady", "dry, rain, fill"), ("weather", "Weather", "seasons", "*rows")]


def module_of(name):
    return importlib.import_module(f"waterbyturns.{name}")


def arguments(function):
    return str(inspect.signature(function)).strip("()")


class InterfaceTest(unittest.TestCase):
    def test_functions(self):
        for module, functions in FUNCTIONS.items():
            for name, expected in functions.items():
                function = getattr(module_of(module), name)
                self.assertEqual(function.__module__, f"waterbyturns.{module}")
                self.assertEqual(arguments(function), expected, name)

    def test_classes_define_their_methods_themselves(self):
        for module, classes in CLASSES.items():
            for name, methods in classes.items():
                body = vars(getattr(module_of(module), name))
                self.assertEqual(body["__module__"], f"waterbyturns.{module}")
                for method, expected in methods.items():
                    self.assertIn(method, body, name)
                    if expected is not None:
                        self.assertEqual(arguments(body[method]), expected, f"{name}.{method}")

    def test_properties(self):
        for module, name, held, has_setter in PROPERTIES:
            found = vars(getattr(module_of(module), name))[held]
            self.assertIsInstance(found, property)
            self.assertEqual(found.fset is not None, has_setter, held)

    def test_static_methods(self):
        for module, name, method, expected in STATIC:
            found = vars(getattr(module_of(module), name))[method]
            self.assertIsInstance(found, staticmethod)
            self.assertEqual(arguments(found.__func__), expected, method)


if __name__ == "__main__":
    unittest.main()
