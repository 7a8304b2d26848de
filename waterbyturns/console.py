"""A console that answers lines of words."""

from waterbyturns.books import turn_text
from waterbyturns.channel import Channel
from waterbyturns.errors import BadName, BadNumber, BadStanding, BadTurn, DriedOut, NothingToUndo
from waterbyturns.field import Standing
from waterbyturns.safe import Safe
from waterbyturns.texts import read_turn
from waterbyturns.words import is_number, read_number

# How many words each command has, itself included.
_WORDS = {"start": 2, "play": 3, "undo": 1, "safe": 1, "least": 1, "table": 1}
_WITHOUT_RUN = ("start", "least")


def console(field, lines):
    """The answers to the lines, one for each."""
    desk = Desk(field)
    return [desk.answer(line) for line in lines]


class Desk:
    """What the console keeps from line to line."""

    def __init__(self, field):
        self._field = field
        self._channel = None
        self._safe = None

    def answer(self, line):
        """The answer to one line: what was asked for, or a word that tells what is wrong."""
        words = line.split(" ")
        if words[0] not in _WORDS:
            return "unknown"
        if not self._has_form(words):
            return "form"
        if self._channel is None and words[0] not in _WITHOUT_RUN:
            return "norun"
        try:
            return self._obeyed(words)
        except BadName:
            return "name"
        except BadTurn:
            return "turn"
        except BadNumber:
            return "number"
        except BadStanding:
            return "standing"
        except DriedOut:
            return "dry"
        except NothingToUndo:
            return "nothing"

    def _has_form(self, words):
        if "" in words or len(words) != _WORDS[words[0]]:
            return False
        if words[0] == "start":
            parts = words[1].split(",")
            return len(parts) == len(self._field.ground.plots) + 2 and all([is_number(part) for part in parts])
        return words[0] != "play" or is_number(words[2])

    def _obeyed(self, words):
        if words[0] == "start":
            return self._started(words[1])
        if words[0] == "play":
            return str(self._channel.play(read_turn(words[1]), read_number(words[2])))
        if words[0] == "undo":
            return str(self._channel.undo())
        if words[0] == "safe":
            return self._safe_text()
        if words[0] == "least":
            return str(len(self._found_safe().least))
        return self._table()

    def _started(self, word):
        *levels, tank, mood = [read_number(part) for part in word.split(",")]
        self._channel = Channel(self._field, Standing(levels, tank, mood))
        return str(self._channel.present)

    def _safe_text(self):
        safe, present = self._found_safe(), self._channel.present
        if safe.keeps(present):
            return f"safe {turn_text(safe.first_turn(present))}"
        return f"lost in {safe.rank(present)}"

    def _found_safe(self):
        """The safe standings, looked for once, and only if they are asked for."""
        if self._safe is None:
            self._safe = Safe(self._field)
        return self._safe

    def _table(self):
        plots, levels = self._field.ground.plots, self._channel.present.levels
        return "\n".join([f"{plot.name:<8}{level:>3}/{plot.hold}" for plot, level in zip(plots, levels)])
