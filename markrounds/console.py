"""A console: commands on a live row, and their results as texts."""

from markrounds.errors import InvalidNumber, InvalidPlace, InvalidRuler, LimitExceeded, MissingMark, NothingToUndo
from markrounds.jams import needed
from markrounds.listing import rank_of_map
from markrounds.live import LiveRow
from markrounds.roundings import DownRounding, UpRounding
from markrounds.rulers import Ruler
from markrounds.texts import read_number

# The words of the commands, with the least and the greatest number of integers
# behind them; None is no bound.
COMMANDS = {
    "new": (1, 1),
    "up": (1, None),
    "down": (1, None),
    "undo": (0, 0),
    "at": (1, 1),
    "word": (0, 0),
    "needs": (0, 0),
    "rank": (0, 0),
}


class Console:
    """Runs commands on a live row, which the first command new makes."""

    def __init__(self):
        self._row = None

    def run(self, command):
        """Return the result of the command; one that fails changes nothing."""
        if not _is_command(command):
            return "bad command"
        word, *texts = command.split(" ")
        if self._row is None and word != "new":
            return "no row"
        numbers = [read_number(text) for text in texts]
        try:
            return self._result(word, numbers)
        except (InvalidNumber, InvalidPlace, InvalidRuler):
            return "bad number"
        except MissingMark:
            return "missing mark"
        except LimitExceeded:
            return "too many steps"
        except NothingToUndo:
            return "nothing to undo"

    def _result(self, word, numbers):
        if word == "new":
            self._row = LiveRow(numbers[0])
            return "ok"
        if word in ("up", "down", "undo"):
            _change(self._row, word, numbers)
            return "ok"
        return _answer(self._row, word, numbers)


def _is_command(value):
    """Tell whether the value is a word of the table and the right number of integers."""
    if type(value) is not str:
        return False
    word, *texts = value.split(" ")
    if word not in COMMANDS or None in [read_number(text) for text in texts]:
        return False
    least, greatest = COMMANDS[word]
    return len(texts) >= least and (greatest is None or len(texts) <= greatest)


def _change(row, word, numbers):
    last = row.state.last
    if word == "up":
        row.do(UpRounding(Ruler(last, *numbers)))
    elif word == "down":
        row.do(DownRounding(Ruler(last, *numbers)))
    else:
        row.undo()


def _answer(row, word, numbers):
    if word == "at":
        return str(row(numbers[0]))
    if word == "word":
        return row.letters if len(row) > 0 else "none"
    if word == "needs":
        many_up, many_down = needed(row.state)
        return f"{many_up} {many_down}"
    return str(rank_of_map(row.state))
