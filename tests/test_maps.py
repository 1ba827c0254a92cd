"""The class RowMap: creation, properties, calls, mirrored maps, maps beside each other."""

import inspect
import itertools
import operator

from markrounds.errors import InvalidMap, InvalidNumber, InvalidPlace
from markrounds.maps import RowMap
from values import (
    HUGE, QuickCase, all_images, all_row_maps, foreign_values, no_integers, shared_parts, wrong_integers,
)


class CreationTest(QuickCase):

    def test_methods_are_defined_in_the_class_itself(self):
        own = vars(RowMap)
        for name in ("__init__", "of", "identity", "constant", "shift", "last", "images", "classes", "is_up",
                     "is_down", "is_still", "beside", "__call__", "__getitem__", "__contains__", "__len__",
                     "__bool__", "__eq__", "__neg__", "__add__", "__and__", "__or__", "__le__", "__lt__"):
            self.assertIn(name, own)
        for name in ("of", "identity", "constant", "shift"):
            self.assertIsInstance(inspect.getattr_static(RowMap, name), classmethod)
        self.assertEqual(RowMap.__module__, "markrounds.maps")

    def test_all_maps_of_small_rows(self):
        for last in (1, 2, 3):
            for values in itertools.product(range(-1, last + 2), repeat=last + 1):
                if values in all_images(last):
                    self.assertEqual(RowMap(*values).images, values)
                    self.assertEqual(RowMap.of(values).images, values)
                else:
                    wrong = [spot for spot, value in enumerate(values)
                             if not 0 <= value <= last or spot and value < values[spot - 1]]
                    self.assertEqual(self.caught(InvalidMap, RowMap, *values).spot, wrong[0])
                    self.assertEqual(self.caught(InvalidMap, RowMap.of, values).spot, wrong[0])

    def test_numbers_of_values(self):
        for many in range(2, 22):
            self.assertEqual(RowMap(*range(many)).images, tuple(range(many)))
            self.assertEqual(RowMap.of(tuple(range(many))).images, tuple(range(many)))
        for many in (0, 1, 22, 23, 1000):
            self.assertIsNone(self.caught(InvalidMap, RowMap, *range(many)).spot)
            self.assertIsNone(self.caught(InvalidMap, RowMap.of, tuple(range(many))).spot)

    def test_the_number_of_values_comes_first(self):
        for values in ((None,), (-1,), (5,), (3, 2, 1) * 8, (None,) * 22, (True,) * 30, (shared_parts(50),)):
            self.assertIsNone(self.caught(InvalidMap, RowMap, *values).spot)
            self.assertIsNone(self.caught(InvalidMap, RowMap.of, values).spot)

    def test_a_wrong_value_at_every_position(self):
        for wrong in wrong_integers(0, 4):
            for spot in range(5):
                values = [0, 1, 1, 3, 4]
                values[spot] = wrong
                self.assertEqual(self.caught(InvalidMap, RowMap, *values).spot, spot)
                self.assertEqual(self.caught(InvalidMap, RowMap.of, tuple(values)).spot, spot)

    def test_a_value_less_than_the_one_before(self):
        self.assertEqual(self.caught(InvalidMap, RowMap, 1, 0).spot, 1)
        self.assertEqual(self.caught(InvalidMap, RowMap, 0, 2, 1).spot, 2)
        self.assertEqual(self.caught(InvalidMap, RowMap, 0, 2, 1, 0).spot, 2)
        self.assertEqual(self.caught(InvalidMap, RowMap, *range(20), 18).spot, 20)

    def test_the_first_of_several_wrong_values_is_named(self):
        for wrong, other in (([0], None), (6, -1), (True, "a"), (-1, False), (shared_parts(50), 9)):
            for first, second in itertools.combinations(range(5), 2):
                values = [0, 1, 2, 3, 4]
                values[first], values[second] = wrong, other
                self.assertEqual(self.caught(InvalidMap, RowMap, *values).spot, first)
                self.assertEqual(self.caught(InvalidMap, RowMap.of, tuple(values)).spot, first)
        self.assertEqual(self.caught(InvalidMap, RowMap, 2, 1, None).spot, 1)
        self.assertEqual(self.caught(InvalidMap, RowMap, 2, None, 1).spot, 1)

    def test_of(self):
        for call in (RowMap.of, RowMap(0, 1).of):
            made = call((0, 0, 2))
            self.assertIsInstance(made, RowMap)
            self.assertEqual(made.images, (0, 0, 2))
            self.assertEqual(call(values=(1, 1)).images, (1, 1))

    def test_of_with_values_that_are_no_tuples(self):
        for value in [[0, 1], [0, 0, 2], {0: 0, 1: 1}, range(2), "01", b"\x00\x01", 1, 0, RowMap(0, 1)]:
            self.assertIsNone(self.caught(InvalidMap, RowMap.of, value).spot)
        for value in no_integers():
            if type(value) is not tuple:
                self.assertIsNone(self.caught(InvalidMap, RowMap.of, value).spot)
                self.assertIsNone(self.caught(InvalidMap, RowMap(0, 1).of, value).spot)

    def test_of_with_tuples_of_other_values(self):
        self.assertEqual(self.caught(InvalidMap, RowMap.of, shared_parts(98)).spot, 0)
        self.assertEqual(self.caught(InvalidMap, RowMap.of, (0, shared_parts(50))).spot, 1)
        self.assertEqual(self.caught(InvalidMap, RowMap.of, ((0, 1), (0, 1))).spot, 0)
        self.assertIsNone(self.caught(InvalidMap, RowMap.of, ()).spot)
        self.assertIsNone(self.caught(InvalidMap, RowMap.of, ((0, 1),)).spot)

    def test_properties_cannot_be_assigned(self):
        for name in ("last", "images", "classes", "is_up", "is_down", "is_still"):
            self.caught(AttributeError, setattr, RowMap(0, 1), name, 1)


class ClassMethodsTest(QuickCase):

    def test_identity(self):
        for last in range(1, 21):
            for made in (RowMap.identity(last), RowMap.identity(last=last), RowMap(0, 0).identity(last)):
                self.assertIsInstance(made, RowMap)
                self.assertEqual(made.images, tuple(range(last + 1)))

    def test_constant(self):
        for last in (1, 2, 20):
            for value in range(last + 1):
                for made in (RowMap.constant(last, value), RowMap.constant(value=value, last=last),
                             RowMap(0, 0).constant(last, value)):
                    self.assertEqual(made.images, (value,) * (last + 1))

    def test_shift(self):
        self.assertEqual(RowMap.shift(3, 1).images, (1, 2, 3, 3))
        self.assertEqual(RowMap.shift(3, -1).images, (0, 0, 1, 2))
        self.assertEqual(RowMap.shift(3, 0).images, (0, 1, 2, 3))
        for last in (1, 2, 20):
            for by in [*range(-last - 2, last + 3), HUGE, -HUGE]:
                wanted = tuple(min(last, max(0, place + by)) for place in range(last + 1))
                for made in (RowMap.shift(last, by), RowMap.shift(by=by, last=last), RowMap(0, 0).shift(last, by)):
                    self.assertEqual(made.images, wanted)

    def test_wrong_last_places(self):
        for last in wrong_integers(1, 20):
            for kind in (RowMap, RowMap(0, 1)):
                self.assertIsNone(self.caught(InvalidMap, kind.identity, last).spot)
                # The other argument is wrong for some of these, too.
                for other in (0, 1, -1, 21, None, True, shared_parts(50)):
                    self.assertIsNone(self.caught(InvalidMap, kind.constant, last, other).spot)
                    self.assertIsNone(self.caught(InvalidMap, kind.shift, last, other).spot)

    def test_constant_with_wrong_values(self):
        for last in (1, 5, 20):
            for value in wrong_integers(0, last):
                for call in (RowMap.constant, RowMap(0, 1).constant):
                    self.assertTrue(self.caught(InvalidPlace, call, last, value).value is value)

    def test_shift_by_no_integers(self):
        for by in no_integers():
            for call in (RowMap.shift, RowMap(0, 1).shift):
                self.assertTrue(self.caught(InvalidNumber, call, 5, by).value is by)


class PropertiesTest(QuickCase):

    def test_last_and_images(self):
        for last in (1, 2, 3, 4):
            for images in all_images(last):
                f = RowMap(*images)
                self.assertEqual((f.last, f.images), (last, images))
        self.assertEqual(RowMap.identity(20).last, 20)

    def test_classes_of_some_maps(self):
        for images, classes in (
            ((0, 1), ((0, 0, 0), (1, 1, 1))),
            ((1, 1), ((0, 1, 1),)),
            ((0, 0, 3, 3), ((0, 1, 0), (2, 3, 3))),
            ((0, 2, 2, 2, 4), ((0, 0, 0), (1, 3, 2), (4, 4, 4))),
            ((1, 1, 1, 3, 4), ((0, 2, 1), (3, 3, 3), (4, 4, 4))),
            ((0, 1, 2, 2), ((0, 0, 0), (1, 1, 1), (2, 3, 2))),
        ):
            self.assertEqual(RowMap(*images).classes, classes)

    def test_classes_of_all_maps(self):
        for images in all_images(4):
            wanted = []
            for value in sorted(set(images)):
                places = [place for place in range(5) if images[place] == value]
                wanted.append((places[0], places[-1], value))
            self.assertEqual(RowMap(*images).classes, tuple(wanted))

    def test_is_up_is_down_is_still(self):
        for images in all_images(4):
            f = RowMap(*images)
            self.assertIs(f.is_up, all(images[x] >= x for x in range(5)))
            self.assertIs(f.is_down, all(images[x] <= x for x in range(5)))
            self.assertIs(f.is_still, all(images[images[x]] == images[x] for x in range(5)))

    def test_is_up_is_down_is_still_of_some_maps(self):
        for f, results in (
            (RowMap.identity(3), (True, True, True)),
            (RowMap.constant(3, 3), (True, False, True)),
            (RowMap.constant(3, 0), (False, True, True)),
            (RowMap.shift(3, 1), (True, False, False)),
            (RowMap.shift(3, -1), (False, True, False)),
            (RowMap(0, 0, 3, 3), (False, False, True)),
            (RowMap(1, 1, 1, 2), (False, False, False)),
        ):
            self.assertEqual((f.is_up, f.is_down, f.is_still), results)


class ReadingTest(QuickCase):

    def test_values_of_all_places(self):
        for images in all_images(3):
            f = RowMap(*images)
            self.assertEqual([f(place) for place in range(4)], list(images))
            self.assertEqual([f[place] for place in range(4)], list(images))
            self.assertEqual(f(place=2), images[2])

    def test_values_of_wrong_places(self):
        for f in (RowMap(0, 1), RowMap(0, 0, 3, 3), RowMap.identity(20)):
            for place in wrong_integers(0, f.last):
                self.assertTrue(self.caught(InvalidPlace, f, place).value is place)
                self.assertTrue(self.caught(InvalidPlace, operator.getitem, f, place).value is place)

    def test_in(self):
        for images in all_images(3):
            f = RowMap(*images)
            for value in range(-2, 7):
                self.assertIs(value in f, value in images)
                self.assertIs(value not in f, value not in images)

    def test_values_of_every_kind_are_not_in(self):
        f = RowMap.identity(20)
        for value in wrong_integers(0, 20):
            self.assertIs(value in f, False)
            self.assertIs(value not in f, True)

    def test_len_and_bool(self):
        for last in (1, 2, 3):
            for images in all_images(last):
                f = RowMap(*images)
                self.assertEqual(len(f), last + 1)
                self.assertIs(bool(f), images != tuple(range(last + 1)))
        self.assertEqual((len(RowMap.identity(20)), bool(RowMap.identity(20))), (21, False))

    def test_equality(self):
        maps = [f for last in (1, 2, 3) for f in all_row_maps(last)]
        for f, g in itertools.product(maps, repeat=2):
            self.assertIs(f == g, f.images == g.images)
            self.assertIs(f != g, f.images != g.images)
        self.assertTrue(RowMap(0, 1, 2) == RowMap.of((0, 1, 2)) == RowMap.identity(2))

    def test_foreign_values_are_not_equal(self):
        f = RowMap(0, 0, 3, 3)
        for value in foreign_values(RowMap):
            self.assertIs(f == value, False)
            self.assertIs(f != value, True)
        for value in ((0, 0, 3, 3), [0, 0, 3, 3], 4):
            self.assertIs(f == value, False)
            self.assertIs(value == f, False)

    def test_maps_are_not_iterated_over(self):
        for call in (iter, list, tuple, sorted, set):
            self.caught(TypeError, call, RowMap(0, 0, 3, 3))

    def test_mirrored(self):
        self.assertEqual((-RowMap(0, 0, 1, 3)).images, (0, 2, 3, 3))
        self.assertEqual((-RowMap.shift(20, 3)).images, RowMap.shift(20, -3).images)
        for last in (1, 2, 3, 4):
            for images in all_images(last):
                f = RowMap(*images)
                wanted = tuple(last - images[last - place] for place in range(last + 1))
                self.assertEqual((-f).images, wanted)
                self.assertTrue(-(-f) == f)


class BesideTest(QuickCase):

    def test_beside(self):
        f, g = RowMap(0, 0, 2), RowMap(1, 1)
        self.assertEqual(f.beside(g).images, (0, 0, 2, 4, 4))
        self.assertEqual(g.beside(f).images, (1, 1, 2, 2, 4))
        self.assertEqual(f.beside(other=f).images, (0, 0, 2, 3, 3, 5))
        self.assertIsInstance(f.beside(g), RowMap)

    def test_all_pairs_of_small_maps(self):
        maps = all_row_maps(1) + all_row_maps(2)
        for f, g in itertools.product(maps, repeat=2):
            both = f.beside(g)
            self.assertEqual(len(both), len(f) + len(g))
            for place in range(len(f)):
                self.assertEqual(both(place), f(place))
            for place in range(len(g)):
                self.assertEqual(both(len(f) + place), len(f) + g(place))

    def test_the_greatest_row_and_one_more_place(self):
        for many in range(2, 20):
            f, g = RowMap.constant(many - 1, 0), RowMap.identity(20 - many)
            self.assertEqual(f.beside(g).images, (0,) * many + tuple(range(many, 21)))
            self.assertIsNone(self.caught(InvalidMap, f.beside, RowMap.identity(21 - many)).spot)
        longest = RowMap.identity(20)
        self.assertIsNone(self.caught(InvalidMap, longest.beside, longest).spot)
        self.assertIsNone(self.caught(InvalidMap, longest.beside, RowMap(0, 1)).spot)
        self.assertIsNone(self.caught(InvalidMap, RowMap(0, 1).beside, longest).spot)
