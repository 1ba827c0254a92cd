"""Jams: classes in a row each of which must wait for the next one."""

from markrounds.checks import is_within
from markrounds.errors import InvalidAnswer


def ups(f):
    """Return how many up-roundings are needed at least to make the map."""
    _, length = _longest("up", f.classes)
    return length


def downs(f):
    """Return how many down-roundings are needed at least to make the map."""
    _, length = _longest("down", f.classes)
    return length


def needed(f):
    """Return how many up-roundings and down-roundings are needed at least."""
    return longest_lengths(f.classes)


def up_jam(f):
    """Return ("up", i, k) with a longest up-jam, or None if there is none."""
    return _longest_jam("up", f)


def down_jam(f):
    """Return ("down", i, k) with a longest down-jam, or None if there is none."""
    return _longest_jam("down", f)


def check_jam(f, answer):
    """Return the length of the jam that the answer names."""
    # A plain tuple only, so that no code of the caller's runs here.
    if type(answer) is not tuple or len(answer) != 3 or not _is_kind(answer[0]):
        raise InvalidAnswer("form")
    kind, number, length = answer
    classes = f.classes
    if not is_within(number, 0, len(classes) - 1):
        raise InvalidAnswer("class")
    # A jam stays one without its last class, so every lesser length is right.
    if not is_within(length, 1, _greatest_length(kind, number, classes)):
        raise InvalidAnswer("length")
    return length


def longest_lengths(classes):
    """Return the lengths of the longest up-jam and the longest down-jam, 0 if there is none."""
    _, length_up = _longest("up", classes)
    _, length_down = _longest("down", classes)
    return length_up, length_down


def _is_kind(value):
    return type(value) is str and value in ("up", "down")


def _longest_jam(kind, f):
    number, length = _longest(kind, f.classes)
    if length == 0:
        return None
    return kind, number, length


def _longest(kind, classes):
    """Return the class and the length of a longest jam; the length 0 if there is none."""
    best, longest = 0, 0
    for number in range(len(classes)):
        length = _greatest_length(kind, number, classes)
        if length > longest:
            best, longest = number, length
    return best, longest


def _greatest_length(kind, number, classes):
    """Return the greatest length of a jam of this kind at the class, or 0."""
    if kind == "up":
        return _up_length(number, classes)
    return _down_length(number, classes)


def _up_length(number, classes):
    value = classes[number][2]
    length = 0
    while number + length < len(classes) and classes[number + length][0] < value + length:
        length += 1
    return length


def _down_length(number, classes):
    value = classes[number][2]
    length = 0
    while number - length >= 0 and classes[number - length][1] > value - length:
        length += 1
    return length
