"""The operators between two maps."""

import itertools
import operator
import random

from markrounds.errors import InvalidMap, InvalidNumber, InvalidPlace, OtherRow
from markrounds.maps import RowMap
from markrounds.rulers import Ruler
from values import Agreeable, QuickCase, Touchy, all_mark_tuples, all_row_maps, foreign_values

MAKING = (operator.add, operator.and_, operator.or_)
ORDER = (operator.le, operator.lt)
TURNED_ORDER = (operator.ge, operator.gt)


def up_map(last, marks):
    return RowMap(*[min(mark for mark in marks if mark >= place) for place in range(last + 1)])


def down_map(last, marks):
    return RowMap(*[max(mark for mark in marks if mark <= place) for place in range(last + 1)])


class OperatorsTest(QuickCase):

    def check_pair(self, f, g):
        pairs = list(zip(f.images, g.images))
        for made, wanted in (
            (f + g, [g.images[value] for value in f.images]),
            (f & g, [min(pair) for pair in pairs]),
            (f | g, [max(pair) for pair in pairs]),
        ):
            self.assertIsInstance(made, RowMap)
            self.assertEqual(made.images, tuple(wanted))
        below, above = all(x <= y for x, y in pairs), all(x >= y for x, y in pairs)
        self.assertIs(f <= g, below)
        self.assertIs(f >= g, above)
        self.assertIs(f < g, below and not above)
        self.assertIs(f > g, above and not below)

    def test_all_pairs_of_small_rows(self):
        for last in (1, 2, 3):
            for f, g in itertools.product(all_row_maps(last), repeat=2):
                self.check_pair(f, g)

    def test_some_pairs_of_the_longest_row(self):
        draw = random.Random(11)
        for _ in range(200):
            pair = [RowMap(*sorted(draw.choices(range(21), k=21))) for _ in range(2)]
            self.check_pair(pair[0], pair[1])

    def test_the_first_map_of_a_sum_is_done_first(self):
        f, g = RowMap(0, 0, 1, 3), RowMap(1, 2, 2, 3)
        self.assertEqual((f + g).images, (1, 1, 2, 3))
        self.assertEqual((g + f).images, (0, 1, 1, 3))

    def test_lesser_and_greater_values(self):
        f, g = RowMap(0, 2, 2, 3), RowMap(1, 1, 2, 2)
        self.assertEqual((f & g).images, (0, 1, 2, 2))
        self.assertEqual((f | g).images, (1, 2, 2, 3))

    def test_order_of_some_maps(self):
        f = RowMap(0, 1, 1, 3)
        for g, results in (
            (RowMap(0, 1, 1, 3), (True, False, True, False)),
            (RowMap(0, 1, 2, 3), (True, True, False, False)),
            (RowMap(0, 1, 1, 2), (False, False, True, True)),
            (RowMap(0, 0, 2, 3), (False, False, False, False)),
        ):
            self.assertEqual((f <= g, f < g, f >= g, f > g), results)

    def test_sums_with_the_identity(self):
        for f in all_row_maps(3):
            self.assertTrue(f + RowMap.identity(3) == f)
            self.assertTrue(RowMap.identity(3) + f == f)

    def test_sums_of_three_maps_with_either_brackets(self):
        for last in (1, 2, 3):
            for f, g, h in itertools.product(all_row_maps(last), repeat=3):
                self.assertEqual(((f + g) + h).images, (f + (g + h)).images)
        three = RowMap(0, 0, 1, 2) + RowMap(1, 1, 2, 3) + RowMap(0, 2, 3, 3)
        self.assertEqual(three.images, (2, 2, 2, 3))

    def test_maps_of_another_row(self):
        for last, other_last in ((1, 2), (2, 1), (3, 4), (1, 20), (20, 1)):
            f, g = RowMap.identity(last), RowMap.identity(other_last)
            for call in MAKING + ORDER:
                self.assertIs(self.caught(OtherRow, call, f, g).value, g)
            for call in TURNED_ORDER:
                self.assertIs(self.caught(OtherRow, call, f, g).value, f)
            self.assertIs(f == g, False)
            self.assertIs(f != g, True)

    def test_subclasses_are_maps(self):
        class OwnMap(RowMap):
            pass
        f, g = RowMap(0, 0, 2), OwnMap(0, 1, 2)
        self.assertTrue(f < g and f <= g and g > f and g >= f and f != g and OwnMap(0, 0, 2) == f)
        self.assertFalse(g < f or g <= f or f > g or f >= g)
        other = OwnMap(0, 1)
        for call in TURNED_ORDER:
            self.assertIs(self.caught(OtherRow, call, f, other).value, f)
            self.assertIs(self.caught(OtherRow, call, other, f).value, other)
        self.assertIsInstance(OwnMap.identity(3), OwnMap)

    def test_foreign_values(self):
        f = RowMap(0, 0, 2)
        for value in foreign_values(RowMap) + [Ruler(2, 0, 2), (0, 0, 2), [0, 0, 2]]:
            for call in MAKING + ORDER + TURNED_ORDER:
                self.caught(TypeError, call, f, value)
                if not isinstance(value, (Agreeable, Touchy)):
                    self.caught(TypeError, call, value, f)

    def test_operators_that_are_not_described(self):
        f, g = RowMap(0, 0, 2), RowMap(0, 1, 1)
        for call in (operator.sub, operator.mul, operator.xor, operator.mod, operator.floordiv):
            self.caught(TypeError, call, f, g)
        for call in (operator.pos, operator.invert, abs, int):
            self.caught(TypeError, call, f)
        self.caught(TypeError, sum, [f, g])

    def test_nothing_is_changed(self):
        f, g = RowMap(0, 0, 3, 3), RowMap(1, 2, 3, 3)
        given = [0, {"a": [1]}, [2, [3]]]
        kept = [0, {"a": [1]}, [2, [3]]]
        self.caught(InvalidMap, RowMap, *given)
        for call in (RowMap.of, RowMap.identity):
            self.caught(InvalidMap, call, given)
        self.caught(InvalidPlace, RowMap.constant, 3, given)
        self.caught(InvalidNumber, RowMap.shift, 3, given)
        self.caught(InvalidPlace, f, given)
        self.caught(InvalidPlace, operator.getitem, f, given)
        self.assertIs(given in f, False)
        self.assertIs(f == given, False)
        for call in MAKING + ORDER + TURNED_ORDER:
            call(f, g)
            self.caught(TypeError, call, f, given)
        f.beside(g)
        -f
        self.assertEqual(given, kept)
        self.assertEqual((f.images, f.last, f.classes), ((0, 0, 3, 3), 3, ((0, 1, 0), (2, 3, 3))))
        self.assertEqual(g.images, (1, 2, 3, 3))


class FactsTest(QuickCase):

    def test_sums_keep_the_order_of_maps(self):
        for last in (1, 2):
            pairs = [(f, g) for f, g in itertools.product(all_row_maps(last), repeat=2) if f <= g]
            for (f, f_above), (g, g_above) in itertools.product(pairs, repeat=2):
                self.assertTrue(f + g <= f_above + g_above)

    def test_roundings_with_marks_of_a_ruler_and_some_of_them(self):
        for turned in (False, True):
            rounding = down_map if turned else up_map
            end = 0 if turned else 4
            tuples = [marks for marks in all_mark_tuples(4) if end in marks]
            for marks, fewer in itertools.product(tuples, repeat=2):
                if Ruler(4, *fewer) <= Ruler(4, *marks):
                    first, second = rounding(4, marks), rounding(4, fewer)
                    self.assertTrue(first + second == second == second + first)

    def test_lesser_values_of_up_roundings(self):
        tuples = [marks for marks in all_mark_tuples(4) if 4 in marks]
        for marks, other_marks in itertools.product(tuples, repeat=2):
            both = Ruler(4, *marks) | Ruler(4, *other_marks)
            self.assertTrue(up_map(4, marks) & up_map(4, other_marks) == up_map(4, both.marks))

    def test_mirrored_up_maps_are_down_maps(self):
        for marks in all_mark_tuples(4):
            if 4 in marks:
                self.assertTrue(-up_map(4, marks) == down_map(4, (-Ruler(4, *marks)).marks))

    def test_mirrored_sums(self):
        for f, g in itertools.product(all_row_maps(3), repeat=2):
            self.assertTrue(-(f + g) == -f + -g)
