"""Values that the tests pass where the document says "for any value"."""

import faulthandler
import itertools
import random
import unittest

from markrounds.maps import RowMap
from markrounds.roundings import DownRounding, UpRounding
from markrounds.rulers import Ruler
from markrounds.words import Filler

HUGE = 10 ** 999 + 7


class QuickCase(unittest.TestCase):
    """A test that ends the whole run if it does not end quickly."""

    # A comparison of values with very many parts runs in C, where no handler
    # of a signal could stop it; the watchdog ends the process from outside.
    def setUp(self):
        faulthandler.dump_traceback_later(120, exit=True)
        self.addCleanup(faulthandler.cancel_dump_traceback_later)

    def caught(self, error, call, *given, **named):
        """Return the exception of exactly this class that the call raises."""
        with self.assertRaises(error) as context:
            call(*given, **named)
        self.assertTrue(type(context.exception) is error)
        return context.exception


class Plain:
    """An own object without any methods."""


class Agreeable:
    """An own object that answers every operator, and agrees to everything."""

    def _agree(self, *others):
        return True

    def _one(self):
        return 1

    __eq__ = __ne__ = __lt__ = __le__ = __gt__ = __ge__ = __contains__ = _agree
    __add__ = __radd__ = __sub__ = __rsub__ = __mul__ = __rmul__ = _agree
    __and__ = __rand__ = __or__ = __ror__ = __xor__ = __rxor__ = _agree
    __hash__ = __int__ = __index__ = __len__ = _one


class Touchy:
    """An own object that can be asked nothing."""

    def _refuse(self, *others):
        raise AssertionError("the value was asked something")

    __eq__ = __ne__ = __lt__ = __le__ = __gt__ = __ge__ = __contains__ = _refuse
    __hash__ = __int__ = __index__ = __len__ = __bool__ = __iter__ = _refuse
    __repr__ = __str__ = __getattr__ = _refuse


class Masked:
    """An own object that calls itself an int."""

    __class__ = int


def nested(levels):
    value = ()
    for _ in range(levels):
        value = (value,)
    return value


def nested_in_lists(levels):
    value = []
    for _ in range(levels):
        value = [value]
    return value


def nested_in_dicts(levels):
    value = {}
    for _ in range(levels):
        value = {"a": value}
    return value


def shared_parts(levels):
    """A value that contains the same objects so often that it has 2 ** levels parts."""
    value = (0, 1)
    for _ in range(levels):
        value = (value, value)
    return value


def shared_parts_in_lists(levels):
    value = [0, 1]
    for _ in range(levels):
        value = [value, value]
    return value


def own_function(place):
    return place


def no_integers():
    """Values of every kind that are not integers; new objects at each call."""
    return [
        None, True, False,
        "", "0", "1", "u", "last", "a\nb", "x" * 20000,
        b"", b"\x01", b"11",
        [], [0], [1], [0, 1], [True],
        (), (0,), (1,), (0, 1), ((0, 1),),
        {}, {0: 1}, {"a": 1}, set(), {1}, frozenset([1]),
        range(3), object(), int, Plain, Plain(), Agreeable(), Touchy(), Masked(),
        own_function, lambda: 1, len, [].append,
        slice(0, 1), NotImplemented, ...,
        Ruler(1, 0), Ruler(3, 1, 3), RowMap(0, 1), RowMap(0, 0, 3, 3), Ruler, RowMap,
        UpRounding(Ruler(1, 1)), DownRounding(Ruler(3, 0, 3)), UpRounding, Filler("ud"), Filler,
        nested(99), nested_in_lists(99), nested_in_dicts(99),
        shared_parts(50), shared_parts(98), shared_parts_in_lists(60),
        (shared_parts(45), 1), {"a": shared_parts(45)},
    ]


def wrong_integers(low, high):
    """No integers, and integers that are not from low to high."""
    return no_integers() + [low - 1, high + 1, low - 2, high + 2, -1000, 1000, -HUGE, HUGE, 2 ** 64, -2 ** 64]


def values_of_every_kind():
    return no_integers() + [-1, 0, 1, 2, HUGE, -HUGE]


def no_texts():
    return [value for value in values_of_every_kind() if type(value) is not str]


def foreign_values(*own):
    """Values of every kind that are not of these own classes."""
    return [value for value in values_of_every_kind() if type(value) not in own]


def all_mark_tuples(last):
    places = range(last + 1)
    return [marks for many in range(1, last + 2) for marks in itertools.combinations(places, many)]


def all_rulers(last):
    return [Ruler(last, *marks) for marks in all_mark_tuples(last)]


def all_up_roundings(last):
    return [UpRounding(ruler) for ruler in all_rulers(last) if last in ruler]


def all_down_roundings(last):
    return [DownRounding(ruler) for ruler in all_rulers(last) if 0 in ruler]


def all_images(last):
    return list(itertools.combinations_with_replacement(range(last + 1), last + 1))


def all_row_maps(last):
    return [RowMap(*images) for images in all_images(last)]


def some_row_maps(last, many, seed):
    """Maps of a long row: drawn ones, steep ones, and all shifts."""
    draw = random.Random(seed)
    drawn = [RowMap(*sorted(draw.choices(range(last + 1), k=last + 1))) for _ in range(many)]
    steps = [RowMap(*sorted(draw.choices(range(last // 2, last + 1), k=last + 1))) for _ in range(many // 4)]
    shifts = [RowMap.shift(last, by) for by in range(-last, last + 1)]
    return drawn + steps + [-f for f in steps] + shifts


def drawn_roundings(last, many, seed):
    """Drawn roundings of both kinds."""
    draw = random.Random(seed)
    found = []
    for _ in range(many):
        # Most places are marks, so that the maps do not end as constants soon.
        marks = draw.sample(range(last + 1), draw.randint(last // 2, last))
        up = draw.random() < 0.5
        found.append(UpRounding(Ruler(last, last, *marks)) if up else DownRounding(Ruler(last, 0, *marks)))
    return found
