"""All fillings of a short word for a map of a short row."""

from markrounds.errors import LimitExceeded
from markrounds.roundings import DownRounding, UpRounding
from markrounds.rulers import Ruler
from markrounds.words import check_word

MAX_ROW = 4
MAX_WORD = 4


def fillings(f, letters):
    """Yield all fillings of the word for the map, ascending by their marks."""
    _check_limits(f, letters)
    steps = _steps(f.last, letters)
    ways = _ways(f, steps)
    start = _start(f.last)
    waiting = []
    if start in ways[0]:
        waiting.append((start, ()))
    # Only beginnings of fillings wait here, the least one on top.
    while len(waiting) > 0:
        values, begun = waiting.pop()
        many = len(begun)
        if many == len(letters):
            yield begun
        else:
            rows = [(after, (*begun, rounding)) for rounding, after in steps[many][values] if after in ways[many + 1]]
            waiting.extend(rows[::-1])


def count_fillings(f, letters):
    """Return how many fillings of the word for the map there are."""
    _check_limits(f, letters)
    ways = _ways(f, _steps(f.last, letters))
    return ways[0].get(_start(f.last), 0)


def _check_limits(f, letters):
    check_word(letters)
    if f.last > MAX_ROW or len(letters) > MAX_WORD:
        raise LimitExceeded(MAX_ROW)


def _start(last):
    return tuple(range(last + 1))


def _steps(last, letters):
    """Return for each letter where its roundings lead from all that the letters before make.

    These are dicts; a key is a tuple of values, and what it leads to is a list
    of pairs of a rounding, ascending, and the values after it.
    """
    roundings = {"u": _up_roundings(last), "d": _down_roundings(last)}
    steps = []
    reached = {_start(last): True}
    for letter in letters:
        rows = {values: _row_of_steps(values, roundings[letter]) for values in reached}
        steps.append(rows)
        reached = {after: True for values in rows for _, after in rows[values]}
    return steps


def _row_of_steps(values, roundings):
    return [(rounding, tuple([images[value] for value in values])) for rounding, images in roundings]


def _ways(f, steps):
    """Return before each letter, and behind all, in how many ways values lead on to the map.

    These are dicts; only tuples of values that lead to the map are keys.
    """
    ways = [{f.images: 1}]
    for rows in steps[::-1]:
        behind = ways[-1]
        before = {values: sum([behind.get(after, 0) for _, after in rows[values]]) for values in rows}
        ways.append({values: before[values] for values in before if before[values] > 0})
    return ways[::-1]


def _up_roundings(last):
    """Return all up-roundings of the row, ascending by their marks, with their values."""
    ends = [(last,)]
    for place in range(last - 1, -1, -1):
        ends = [(place, *end) for end in ends] + ends
    return [_with_values(UpRounding(Ruler(last, *marks))) for marks in ends]


def _down_roundings(last):
    """Return all down-roundings of the row, ascending by their marks, with their values."""
    ends = [()]
    for place in range(last, 0, -1):
        # The empty end comes before all others.
        ends = [()] + [(place, *end) for end in ends] + ends[1:]
    return [_with_values(DownRounding(Ruler(last, 0, *end))) for end in ends]


def _with_values(rounding):
    return rounding, rounding.as_map().images
