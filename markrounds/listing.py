"""The numbers of the maps of a row, ascending by their tuples of values."""

from math import comb

from markrounds.checks import is_within
from markrounds.errors import InvalidNumber, InvalidRank, LimitExceeded
from markrounds.jams import needed
from markrounds.maps import RowMap
from markrounds.rulers import is_last

MAX_TABLE = 5


def count_maps(last):
    """Return how many maps the row has."""
    _check_last(last)
    return _count_ends(last + 1, 0, last)


def map_by_rank(last, rank):
    """Return the map with this number."""
    many = count_maps(last)
    if not is_within(rank, 0, many - 1):
        raise InvalidRank(rank)
    values = _values_at(last, rank)
    return RowMap(*values)


def rank_of_map(f):
    """Return the number of a map."""
    rank = 0
    least = 0
    for place, value in enumerate(f.images):
        for lesser in range(least, value):
            rank += _count_ends(f.last - place, lesser, f.last)
        least = value
    return rank


def all_maps(last, start=0):
    """Yield the maps from the one with the number start on, ascending."""
    many = count_maps(last)
    if not is_within(start, 0, many):
        raise InvalidRank(start)
    if start == many:
        return
    values = _values_at(last, start)
    yield RowMap(*values)
    # Only the last map sends the place 0 to the last place.
    while values[0] < last:
        values = _values_behind(values)
        yield RowMap(*values)


def needs_table(last):
    """Return how many maps need each pair of numbers of roundings up and down."""
    _check_last(last)
    if last > MAX_TABLE:
        raise LimitExceeded(MAX_TABLE)
    table = [[0] * (last + 1) for _ in range(last + 1)]
    for f in all_maps(last):
        many_up, many_down = needed(f)
        table[many_up][many_down] += 1
    return tuple([tuple(row) for row in table])


def _check_last(last):
    if not is_last(last):
        raise InvalidNumber(last)


def _count_ends(many, least, last):
    """Return in how many ways so many places at the end have values from least on."""
    return comb(many + last - least, many)


def _values_at(last, rank):
    """Return the values of the map with this number."""
    values = []
    least = 0
    for rest in range(last, -1, -1):
        many = _count_ends(rest, least, last)
        while rank >= many:
            rank -= many
            least += 1
            many = _count_ends(rest, least, last)
        values.append(least)
    return values


def _values_behind(values):
    """Return the values of the map behind the one with these values."""
    last = len(values) - 1
    place = last
    while values[place] == last:
        place -= 1
    value = values[place] + 1
    return values[:place] + [value] * (last + 1 - place)
