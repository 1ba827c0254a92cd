"""The classes Rounding, UpRounding and DownRounding."""

import inspect
import itertools
import operator
import random

from markrounds.errors import InvalidPlace, MissingMark, OtherRow
from markrounds.maps import RowMap
from markrounds.roundings import DownRounding, Rounding, UpRounding
from markrounds.rulers import Ruler
from values import (
    Agreeable, QuickCase, Touchy, all_down_roundings, all_rulers, all_up_roundings, foreign_values, wrong_integers,
)

KINDS = (UpRounding, DownRounding)
METHODS = ("ruler", "as_map", "__call__", "__eq__", "__neg__", "__add__")


def all_roundings(last):
    return all_up_roundings(last) + all_down_roundings(last)


def some_roundings(last, many, seed):
    draw = random.Random(seed)
    rulers = [draw.sample(range(last + 1), draw.randint(1, last + 1)) for _ in range(many)]
    ups = [UpRounding(Ruler(last, last, *marks)) for marks in rulers]
    return ups + [DownRounding(Ruler(last, 0, *marks)) for marks in rulers]


def images_of(rounding):
    """Where the places go, by the definition."""
    marks = rounding.ruler.marks
    if type(rounding) is UpRounding:
        return tuple(min(mark for mark in marks if mark >= place) for place in rounding.ruler.places)
    return tuple(max(mark for mark in marks if mark <= place) for place in rounding.ruler.places)


class CreationTest(QuickCase):

    def test_the_classes(self):
        self.assertEqual((UpRounding.__bases__, DownRounding.__bases__), ((Rounding,), (Rounding,)))
        self.assertEqual((UpRounding.LETTER, DownRounding.LETTER), ("u", "d"))
        for kind in (Rounding, *KINDS):
            self.assertEqual(kind.__module__, "markrounds.roundings")
            for name in METHODS:
                self.assertIn(name, vars(kind))
            self.assertIsInstance(inspect.getattr_static(kind, "ruler"), property)
        for kind in KINDS:
            self.assertIn("__init__", vars(kind))

    def test_letters_and_bases_of_objects(self):
        up, down = UpRounding(Ruler(3, 3)), DownRounding(Ruler(3, 0))
        self.assertEqual((up.LETTER, down.LETTER), ("u", "d"))
        self.assertTrue(isinstance(up, Rounding) and isinstance(down, Rounding))
        self.assertFalse(isinstance(up, DownRounding) or isinstance(down, UpRounding))

    def test_rulers_with_and_without_the_ends_as_marks(self):
        for last in range(1, 21):
            for ruler in (Ruler(last, last), Ruler(last, 0), Ruler(last, 0, last), Ruler.full(last)):
                for kind, end in ((UpRounding, last), (DownRounding, 0)):
                    if end in ruler:
                        self.assertTrue(kind(ruler).ruler == ruler)
                        self.assertTrue(kind(ruler=ruler).ruler == ruler)
                    else:
                        self.assertEqual(self.caught(MissingMark, kind, ruler).place, end)

    def test_rulers_of_the_last_but_one_place(self):
        for last in range(2, 21):
            self.assertEqual(self.caught(MissingMark, UpRounding, Ruler(last, *range(last))).place, last)
            self.assertEqual(self.caught(MissingMark, DownRounding, Ruler(last, *range(1, last + 1))).place, 0)

    def test_all_rulers_of_small_rows(self):
        for last in (1, 2, 3, 4):
            for ruler in all_rulers(last):
                for kind, end in ((UpRounding, last), (DownRounding, 0)):
                    if end in ruler.marks:
                        self.assertTrue(kind(ruler).ruler == ruler)
                    else:
                        self.assertEqual(self.caught(MissingMark, kind, ruler).place, end)

    def test_the_ruler_cannot_be_assigned(self):
        for kind in KINDS:
            self.caught(AttributeError, setattr, kind(Ruler.full(3)), "ruler", Ruler(3, 0, 3))


class ReadingTest(QuickCase):

    def test_some_roundings(self):
        up, down = UpRounding(Ruler(5, 1, 4, 5)), DownRounding(Ruler(5, 0, 1, 4))
        self.assertEqual([up(place) for place in range(6)], [1, 1, 4, 4, 4, 5])
        self.assertEqual([down(place) for place in range(6)], [0, 1, 1, 1, 4, 4])
        self.assertEqual((up(place=2), down(place=2)), (4, 1))
        self.assertEqual(UpRounding(Ruler(5, 5)).as_map().images, (5,) * 6)
        self.assertEqual(DownRounding(Ruler(5, 0)).as_map().images, (0,) * 6)
        for kind in KINDS:
            self.assertEqual(kind(Ruler.full(5)).as_map().images, (0, 1, 2, 3, 4, 5))

    def check_values(self, rounding):
        wanted = images_of(rounding)
        self.assertEqual(tuple(rounding(place) for place in rounding.ruler.places), wanted)
        self.assertIs(type(rounding.as_map()), RowMap)
        self.assertEqual(rounding.as_map().images, wanted)

    def test_all_roundings_of_small_rows(self):
        for last in (1, 2, 3, 4, 5):
            for rounding in all_roundings(last):
                self.check_values(rounding)

    def test_some_roundings_of_all_rows(self):
        for last in range(1, 21):
            for rounding in some_roundings(last, 20, last):
                self.check_values(rounding)

    def test_wrong_places(self):
        for last in (1, 4, 20):
            for kind in KINDS:
                for ruler in (Ruler(last, 0, last), Ruler.full(last)):
                    rounding = kind(ruler)
                    for place in wrong_integers(0, last):
                        self.assertTrue(self.caught(InvalidPlace, rounding, place).value is place)

    def test_equality(self):
        roundings = [rounding for last in (1, 2, 3) for rounding in all_roundings(last)]
        for one, other in itertools.product(roundings, repeat=2):
            same = (type(one), one.ruler.last, one.ruler.marks) == (type(other), other.ruler.last, other.ruler.marks)
            self.assertIs(one == other, same)
            self.assertIs(one != other, not same)

    def test_equality_of_some_roundings(self):
        for kind in KINDS:
            self.assertTrue(kind(Ruler(4, 0, 2, 4)) == kind(Ruler(4, 4, 2, 0, 2)))
            self.assertFalse(kind(Ruler(4, 0, 2, 4)) == kind(Ruler(4, 0, 4)))
            self.assertFalse(kind(Ruler(1, 0, 1)) == kind(Ruler(2, 0, 2)))
        # The same map twice, and the same ruler, but not the same class.
        self.assertFalse(UpRounding(Ruler.full(3)) == DownRounding(Ruler.full(3)))
        self.assertTrue(UpRounding(Ruler.full(3)) != DownRounding(Ruler.full(3)))

    def test_foreign_values_are_not_equal(self):
        for kind in KINDS:
            rounding = kind(Ruler(2, 0, 2))
            for value in foreign_values(*KINDS) + [Ruler(2, 0, 2), rounding.as_map(), (0, 2), rounding.LETTER]:
                self.assertIs(rounding == value, False)
                self.assertIs(rounding != value, True)
            for value in (Ruler(2, 0, 2), rounding.as_map(), (0, 2), [0, 2], rounding.LETTER, 2, None):
                self.assertIs(value == rounding, False)

    def test_mirrored(self):
        mirrored = -UpRounding(Ruler(5, 0, 1, 5))
        self.assertEqual((type(mirrored), mirrored.ruler.marks), (DownRounding, (0, 4, 5)))
        mirrored = -DownRounding(Ruler(5, 0, 1))
        self.assertEqual((type(mirrored), mirrored.ruler.marks), (UpRounding, (4, 5)))
        for last in (1, 2, 3, 4):
            for rounding in all_roundings(last):
                mirrored = -rounding
                self.assertIsNot(type(mirrored), type(rounding))
                self.assertTrue(mirrored.ruler == -rounding.ruler)
                self.assertTrue(mirrored.as_map() == -rounding.as_map())
                self.assertTrue(-mirrored == rounding)


class SumTest(QuickCase):

    def check_sum(self, one, other):
        both = one + other
        self.assertIs(type(both), RowMap)
        self.assertEqual(both.images, tuple(other(one(place)) for place in one.ruler.places))

    def test_all_pairs_of_small_rows(self):
        for last in (1, 2, 3):
            for one, other in itertools.product(all_roundings(last), repeat=2):
                self.check_sum(one, other)

    def test_some_pairs_of_the_longest_row(self):
        for one, other in itertools.product(some_roundings(20, 10, 3), repeat=2):
            self.check_sum(one, other)

    def test_the_first_rounding_is_done_first(self):
        up, down = UpRounding(Ruler(3, 0, 1, 3)), DownRounding(Ruler(3, 0, 3))
        self.assertEqual((up + down).images, (0, 0, 3, 3))
        self.assertEqual((down + up).images, (0, 0, 0, 3))
        self.assertEqual((up + up).images, (0, 1, 3, 3))

    def test_roundings_of_another_row(self):
        for kind, other_kind in itertools.product(KINDS, repeat=2):
            for last, other_last in ((1, 2), (2, 1), (3, 4), (1, 20), (20, 1)):
                one, other = kind(Ruler.full(last)), other_kind(Ruler.full(other_last))
                self.assertIs(self.caught(OtherRow, operator.add, one, other).value, other)

    def test_foreign_values(self):
        for kind in KINDS:
            rounding = kind(Ruler(2, 0, 2))
            for value in foreign_values(*KINDS) + [Ruler(2, 0, 2), rounding.as_map(), RowMap(0, 1, 2)]:
                self.caught(TypeError, operator.add, rounding, value)
                if not isinstance(value, (Agreeable, Touchy)):
                    self.caught(TypeError, operator.add, value, rounding)

    def test_operators_that_are_not_described(self):
        for kind in KINDS:
            one, other = kind(Ruler(2, 0, 2)), kind(Ruler(2, 0, 1, 2))
            for call in (operator.sub, operator.mul, operator.mod, operator.and_, operator.or_, operator.xor,
                         operator.le, operator.lt, operator.ge, operator.gt, operator.contains, operator.getitem):
                self.caught(TypeError, call, one, other)
                self.caught(TypeError, call, one, 0)
            for call in (operator.pos, operator.invert, abs, int, len, iter, list):
                self.caught(TypeError, call, one)

    def test_nothing_is_changed(self):
        given = [0, {"a": [1]}, [2, [3]]]
        kept = [0, {"a": [1]}, [2, [3]]]
        ruler = Ruler(5, 0, 2, 5)
        up, down = UpRounding(ruler), DownRounding(ruler)
        before = (up.as_map().images, down.as_map().images)
        for one, other in ((up, down), (down, up)):
            self.caught(InvalidPlace, one, given)
            self.caught(TypeError, operator.add, one, given)
            self.assertIs(one == given, False)
            one(3), one + other, -one, one.as_map() + other.as_map()
        self.assertEqual(given, kept)
        self.assertEqual((ruler.last, ruler.marks), (5, (0, 2, 5)))
        self.assertTrue(up.ruler == ruler and down.ruler == ruler)
        self.assertEqual((up.as_map().images, down.as_map().images), before)
        self.assertIsNot(up.as_map(), up.as_map())
