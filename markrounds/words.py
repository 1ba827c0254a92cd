"""Words of the letters u and d, and the roundings that fill them."""

from markrounds.checks import held_within
from markrounds.errors import InvalidWord, TooFew
from markrounds.jams import down_jam, needed, up_jam
from markrounds.roundings import DownRounding, UpRounding
from markrounds.rulers import Ruler

MAX_LETTERS = 60


class Filler:
    """Finds roundings with the letters of a word. It never changes."""

    def __init__(self, letters):
        check_word(letters)
        self._letters = letters

    @property
    def letters(self):
        """The letters of the word."""
        return self._letters

    def __call__(self, f):
        _check_enough("u", self._letters, up_jam(f))
        _check_enough("d", self._letters, down_jam(f))
        return filling(self._letters, f.last, f.classes)


def fewest_word(f):
    """Return the word of the fewest letters that can be filled for f, u first."""
    many_up, many_down = needed(f)
    return "u" * many_up + "d" * many_down


def check_word(letters):
    """Raise InvalidWord if the value is not a word."""
    if type(letters) is not str or len(letters) > MAX_LETTERS:
        raise InvalidWord(None)
    for spot, letter in enumerate(letters):
        if letter not in ("u", "d"):
            raise InvalidWord(spot)


def _check_enough(letter, letters, jam):
    # The jam is a longest one, so its length is the number that is needed.
    if jam is not None and letters.count(letter) < jam[2]:
        raise TooFew(jam)


def filling(letters, last, classes):
    """Return roundings with these letters that lead all places of each class to its value.

    A class is the triple of its least place, its greatest place and its value;
    the classes are ascending, and some places may be of no class.
    """
    many_up, many_down = 0, 0
    roundings = []
    for letter in letters:
        if letter == "u":
            many_up += 1
        else:
            many_down += 1
        places = _places_after(many_up, many_down, classes)
        roundings.append(_rounding(letter, last, places))
    return tuple(roundings)


def _places_after(many_up, many_down, classes):
    """Return where the places of the classes stand after so many letters."""
    places = []
    for number, (least, greatest, value) in enumerate(classes):
        top = _top(number, many_up, classes)
        bottom = _bottom(number, many_down, classes)
        for place in range(least, greatest + 1):
            if place <= value:
                places.append(held_within(top, place, value))
            else:
                places.append(held_within(bottom, value, place))
    return places


# A class that moves up stays so far below the class many_up further on that
# the classes between them have room; behind the last class nothing waits.
def _top(number, many_up, classes):
    if number + many_up >= len(classes):
        return classes[number][2]
    return classes[number + many_up][0] - many_up


# The mirrored distance, from the class many_down further back.
def _bottom(number, many_down, classes):
    if number - many_down < 0:
        return classes[number][2]
    return classes[number - many_down][1] + many_down


def _rounding(letter, last, places):
    if letter == "u":
        return UpRounding(Ruler(last, last, *places))
    return DownRounding(Ruler(last, 0, *places))
