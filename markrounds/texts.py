"""The text of some roundings, written and read."""

from markrounds.checks import is_within
from markrounds.errors import ParseError
from markrounds.roundings import DownRounding, UpRounding, check_roundings
from markrounds.rulers import Ruler, is_last

DIGITS = "0123456789"
MAX_DIGITS = 4


def roundings_text(last, roundings):
    """Return the text of the roundings of a list or tuple."""
    check_roundings(last, roundings)
    lines = [f"row {last}"]
    for rounding in roundings:
        marks = " ".join([str(mark) for mark in rounding.ruler.marks])
        lines.append(f"{rounding.LETTER} {marks}")
    return "\n".join(lines)


def read_roundings(text):
    """Return the last place and the roundings of a text."""
    if type(text) is not str:
        raise ParseError(0, 0)
    lines = text.split("\n")
    last = _read_last(lines[0])
    roundings = [_read_rounding(number, line, last) for number, line in enumerate(lines[1:], start=2)]
    return last, tuple(roundings)


def read_number(word):
    """Return the integer that the word writes, or None if it writes none."""
    if not is_within(len(word), 1, MAX_DIGITS) or not all([sign in DIGITS for sign in word]):
        return None
    if word[0] == "0" and word != "0":
        return None
    return int(word)


def _words_of(number, line):
    """Return the words of the line with this number."""
    words = line.split(" ")
    # Also an empty line, and spaces at the ends, leave empty words.
    if "" in words:
        raise ParseError(number, 0)
    return words


def _read_last(line):
    words = _words_of(1, line)
    if words[0] != "row":
        raise ParseError(1, 1)
    last = read_number(words[1]) if len(words) > 1 else None
    if not is_last(last):
        raise ParseError(1, 2)
    if len(words) > 2:
        raise ParseError(1, 3)
    return last


def _read_rounding(number, line, last):
    words = _words_of(number, line)
    if words[0] == "u":
        marks = _read_marks(number, words, last, last)
        if marks[-1:] != [last]:
            raise ParseError(number, len(words) + 1)
        return UpRounding(Ruler(last, *marks))
    if words[0] == "d":
        marks = _read_marks(number, words, 0, last)
        if len(marks) == 0:
            raise ParseError(number, 2)
        return DownRounding(Ruler(last, *marks))
    raise ParseError(number, 1)


def _read_marks(number, words, greatest_first, last):
    """Return the marks behind the letter of the line; the first is not above greatest_first."""
    marks = []
    least, greatest = 0, greatest_first
    for spot, word in enumerate(words[1:], start=2):
        mark = read_number(word)
        if not is_within(mark, least, greatest):
            raise ParseError(number, spot)
        marks.append(mark)
        least, greatest = mark + 1, last
    return marks
