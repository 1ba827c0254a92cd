"""The class Ruler."""

import inspect
import itertools
import operator
import random

from markrounds.errors import EmptyRuler, InvalidNumber, InvalidRuler, OtherRow
from markrounds.rulers import Ruler
from values import (
    HUGE, Agreeable, QuickCase, Touchy, all_mark_tuples, foreign_values, shared_parts, wrong_integers,
)

MAKING = (operator.or_, operator.and_, operator.sub)
ORDER = (operator.le, operator.lt)
TURNED_ORDER = (operator.ge, operator.gt)


class CreationTest(QuickCase):

    def test_the_class_value(self):
        self.assertEqual(Ruler.MAX_LAST, 20)
        self.assertEqual(Ruler(2, 1).MAX_LAST, 20)

    def test_methods_are_defined_in_the_class_itself(self):
        own = vars(Ruler)
        for name in ("__init__", "full", "is_ruler", "last", "places", "marks", "__len__", "__eq__", "__contains__",
                     "__getitem__", "__neg__", "__or__", "__and__", "__sub__", "__le__", "__lt__"):
            self.assertIn(name, own)
        self.assertIsInstance(inspect.getattr_static(Ruler, "full"), classmethod)
        self.assertIsInstance(inspect.getattr_static(Ruler, "is_ruler"), staticmethod)
        self.assertEqual(Ruler.__module__, "markrounds.rulers")

    def test_last_places_and_their_bounds(self):
        for last in range(1, 21):
            self.assertEqual(Ruler(last, last).last, last)
            self.assertEqual(Ruler(last, last).places, tuple(range(last + 1)))
        for last in (0, -1, 21, 22, HUGE, -HUGE):
            error = self.caught(InvalidRuler, Ruler, last, 0)
            self.assertEqual((error.part, error.spot), ("last", None))

    def test_wrong_last_places_of_every_kind(self):
        for last in wrong_integers(1, 20):
            error = self.caught(InvalidRuler, Ruler, last, 0)
            self.assertEqual((error.part, error.spot), ("last", None))

    def test_one_mark_and_all_marks(self):
        for last in (1, 2, 20):
            for mark in range(last + 1):
                self.assertEqual(Ruler(last, mark).marks, (mark,))
            self.assertEqual(Ruler(last, *range(last + 1)).marks, tuple(range(last + 1)))

    def test_marks_in_any_order_and_several_times(self):
        for marks in itertools.permutations((0, 2, 3, 5)):
            self.assertEqual(Ruler(5, *marks).marks, (0, 2, 3, 5))
        self.assertEqual(Ruler(5, 3, 3, 0, 3, 0).marks, (0, 3))
        self.assertEqual(Ruler(20, *([20, 7] * 5000)).marks, (7, 20))

    def test_no_marks(self):
        for last in (1, 5, 20):
            self.caught(EmptyRuler, Ruler, last)
            self.caught(EmptyRuler, Ruler, last=last)

    def test_a_wrong_mark_at_every_position(self):
        for wrong in wrong_integers(0, 6):
            for spot in range(4):
                marks = [6, 0, 3, 0]
                marks[spot] = wrong
                error = self.caught(InvalidRuler, Ruler, 6, *marks)
                self.assertEqual((error.part, error.spot), ("marks", spot))

    def test_the_first_of_several_wrong_marks_is_named(self):
        for wrong, other in (([0], None), (7, -1), (True, "a"), (shared_parts(50), 7)):
            for first, second in itertools.combinations(range(5), 2):
                marks = [0, 1, 2, 3, 4]
                marks[first], marks[second] = wrong, other
                error = self.caught(InvalidRuler, Ruler, 6, *marks)
                self.assertEqual((error.part, error.spot), ("marks", first))

    def test_a_wrong_last_place_comes_first(self):
        for last in (0, 21, None, True, "5", shared_parts(50)):
            for marks in ((), (0,), (-1,), (0, None), (22, True)):
                error = self.caught(InvalidRuler, Ruler, last, *marks)
                self.assertEqual((error.part, error.spot), ("last", None))

    def test_a_mark_is_held_against_the_row_of_its_ruler(self):
        self.assertEqual(Ruler(3, 3).marks, (3,))
        self.assertEqual(self.caught(InvalidRuler, Ruler, 3, 3, 4).spot, 1)
        self.assertEqual(self.caught(InvalidRuler, Ruler, 19, 20).spot, 0)

    def test_full(self):
        for last in range(1, 21):
            for made in (Ruler.full(last), Ruler.full(last=last), Ruler(4, 2).full(last)):
                self.assertIsInstance(made, Ruler)
                self.assertEqual((made.last, made.marks), (last, tuple(range(last + 1))))

    def test_full_with_wrong_last_places(self):
        for last in wrong_integers(1, 20):
            for call in (Ruler.full, Ruler(4, 2).full):
                error = self.caught(InvalidRuler, call, last)
                self.assertEqual((error.part, error.spot), ("last", None))

    def test_is_ruler(self):
        for call in (Ruler.is_ruler, Ruler(4, 2).is_ruler):
            for given in ((1, 0), (1, 1, 0), (20, 20), (20, 3, 3), (5, *range(6))):
                self.assertIs(call(*given), True)
            for given in ((1,), (20,), (0, 0), (21, 0), (5, 6), (5, -1), (5, 0, 6), (-1,), (5, 0, 1, HUGE)):
                self.assertIs(call(*given), False)
            self.assertIs(call(last=4), False)

    def test_is_ruler_for_values_of_every_kind(self):
        for wrong in wrong_integers(1, 20):
            self.assertIs(Ruler.is_ruler(wrong, 0), False)
            self.assertIs(Ruler.is_ruler(wrong), False)
        for wrong in wrong_integers(0, 20):
            self.assertIs(Ruler.is_ruler(20, wrong), False)
            self.assertIs(Ruler.is_ruler(20, 0, 1, wrong, 2), False)
            self.assertIs(Ruler(4, 2).is_ruler(20, 2, wrong), False)

    def test_properties_cannot_be_assigned(self):
        ruler = Ruler(4, 2)
        for name in ("last", "places", "marks"):
            self.caught(AttributeError, setattr, ruler, name, 1)


class ReadingTest(QuickCase):

    def test_len(self):
        for marks in all_mark_tuples(4):
            self.assertEqual(len(Ruler(4, *marks)), len(marks))
            self.assertIs(bool(Ruler(4, *marks)), True)

    def test_equality(self):
        for last, other_last in itertools.product((1, 2, 3), repeat=2):
            for marks, other_marks in itertools.product(all_mark_tuples(last), all_mark_tuples(other_last)):
                same = (last, marks) == (other_last, other_marks)
                ruler, other = Ruler(last, *marks), Ruler(other_last, *other_marks)
                self.assertIs(ruler == other, same)
                self.assertIs(ruler != other, not same)

    def test_equality_after_other_ways_to_create(self):
        self.assertTrue(Ruler(5, 5, 0, 5) == Ruler(5, 0, 5))
        self.assertTrue(Ruler(2, 0, 1, 2) == Ruler.full(2))
        self.assertFalse(Ruler(4, 0, 2) == Ruler(5, 0, 2))

    def test_foreign_values_are_not_equal(self):
        ruler = Ruler(2, 0, 2)
        for value in foreign_values(Ruler):
            self.assertIs(ruler == value, False)
            self.assertIs(ruler != value, True)
        for value in ((0, 2), [0, 2], (2, (0, 2)), 2):
            self.assertIs(ruler == value, False)
            self.assertIs(value == ruler, False)

    def test_in(self):
        for marks in all_mark_tuples(4):
            ruler = Ruler(4, *marks)
            for place in range(-2, 8):
                self.assertIs(place in ruler, place in marks)
                self.assertIs(place not in ruler, place not in marks)

    def test_values_of_every_kind_are_not_in(self):
        ruler = Ruler.full(20)
        for value in wrong_integers(0, 20):
            self.assertIs(value in ruler, False)
            self.assertIs(value not in ruler, True)

    def test_marks_by_number(self):
        for marks in all_mark_tuples(4):
            ruler = Ruler(4, *marks)
            self.assertEqual([ruler[n] for n in range(len(marks))], list(marks))
            for n in (len(marks), len(marks) + 1, -1, -len(marks)):
                self.assertIs(self.caught(InvalidNumber, operator.getitem, ruler, n).value, n)

    def test_numbers_of_every_kind(self):
        ruler = Ruler(6, 0, 3, 6)
        for n in wrong_integers(0, 2):
            self.assertTrue(self.caught(InvalidNumber, operator.getitem, ruler, n).value is n)

    def test_rulers_are_not_iterated_over(self):
        ruler = Ruler(4, 0, 1)
        for call in (iter, list, tuple, sorted, set):
            self.caught(TypeError, call, ruler)

    def test_mirrored(self):
        self.assertEqual((-Ruler(5, 0, 1, 4)).marks, (1, 4, 5))
        for last in (1, 2, 3, 4):
            for marks in all_mark_tuples(last):
                mirrored = -Ruler(last, *marks)
                self.assertEqual(mirrored.last, last)
                self.assertEqual(mirrored.marks, tuple(sorted(last - mark for mark in marks)))
                self.assertTrue(-mirrored == Ruler(last, *marks))


class OperatorsTest(QuickCase):

    def check_pair(self, last, marks, other_marks):
        ruler, other = Ruler(last, *marks), Ruler(last, *other_marks)
        for call, wanted in (
            (operator.or_, set(marks) | set(other_marks)),
            (operator.and_, set(marks) & set(other_marks)),
            (operator.sub, set(marks) - set(other_marks)),
        ):
            if wanted:
                made = call(ruler, other)
                self.assertIsInstance(made, Ruler)
                self.assertEqual((made.last, made.marks), (last, tuple(sorted(wanted))))
            else:
                self.caught(EmptyRuler, call, ruler, other)
        for call in ORDER + TURNED_ORDER:
            self.assertIs(call(ruler, other), call(set(marks), set(other_marks)))
        self.assertEqual((ruler.last, ruler.marks, other.last, other.marks), (last, marks, last, other_marks))

    def test_all_pairs_of_small_rows(self):
        for last in (1, 2, 3):
            for marks, other_marks in itertools.product(all_mark_tuples(last), repeat=2):
                self.check_pair(last, marks, other_marks)

    def test_some_pairs_of_the_longest_row(self):
        draw = random.Random(7)
        for _ in range(300):
            pair = [tuple(sorted(draw.sample(range(21), draw.randint(1, 21)))) for _ in range(2)]
            self.check_pair(20, pair[0], pair[1])

    def check_same(self, ruler, wanted):
        """Two equal rulers answer alike, whichever way they were made, and whatever is asked first."""
        self.assertTrue(ruler == wanted and wanted == ruler and ruler <= wanted and wanted <= ruler)
        self.assertFalse(ruler != wanted or ruler < wanted or wanted < ruler)
        self.assertTrue(-ruler == -wanted)
        self.assertEqual([place in ruler for place in range(-1, 23)], [place in wanted for place in range(-1, 23)])
        self.assertEqual((len(ruler), ruler[0], ruler[len(ruler) - 1]), (len(wanted), wanted[0], wanted[len(wanted) - 1]))
        self.assertEqual((ruler.last, ruler.marks, ruler.places), (wanted.last, wanted.marks, wanted.places))
        self.assertEqual((type(ruler.marks), {type(mark) for mark in ruler.marks}), (tuple, {int}))
        self.caught(InvalidNumber, operator.getitem, ruler, len(ruler))

    def test_rulers_that_are_put_together_one_mark_after_the_other(self):
        for last in (1, 2, 10, 20):
            ruler = Ruler(last, 0)
            for mark in range(1, last + 1):
                ruler = ruler | Ruler(last, mark)
                self.check_same(ruler, Ruler(last, *range(mark + 1)))
            for mark in range(last):
                ruler = ruler - Ruler(last, mark)
                self.check_same(ruler, Ruler(last, *range(mark + 1, last + 1)))
            self.caught(EmptyRuler, operator.sub, ruler, ruler)

    def test_results_of_operators_are_rulers_like_others(self):
        for marks, other_marks in itertools.product(all_mark_tuples(3), repeat=2):
            ruler, other = Ruler(3, *marks), Ruler(3, *other_marks)
            self.check_same(ruler | other, Ruler(3, *marks, *other_marks))
            if set(marks) & set(other_marks):
                self.check_same(ruler & other, Ruler(3, *(set(marks) & set(other_marks))))
            if set(marks) - set(other_marks):
                self.check_same(ruler - other, Ruler(3, *(set(marks) - set(other_marks))))
            self.check_same(ruler, Ruler(3, *marks))

    def test_marks_of_each_operator(self):
        r, s = Ruler(9, 1, 3, 5, 9), Ruler(9, 0, 3, 9)
        self.assertEqual((r | s).marks, (0, 1, 3, 5, 9))
        self.assertEqual((r & s).marks, (3, 9))
        self.assertEqual((r - s).marks, (1, 5))
        self.assertEqual((s - r).marks, (0,))

    def test_order_of_equal_contained_overlapping_and_disjoint_marks(self):
        r = Ruler(5, 1, 3)
        for other, results in (
            (Ruler(5, 1, 3), (True, False, True, False)),
            (Ruler(5, 1, 3, 4), (True, True, False, False)),
            (Ruler(5, 3), (False, False, True, True)),
            (Ruler(5, 3, 4), (False, False, False, False)),
            (Ruler(5, 0, 4), (False, False, False, False)),
        ):
            self.assertEqual((r <= other, r < other, r >= other, r > other), results)

    def test_no_mark_is_left(self):
        self.caught(EmptyRuler, operator.and_, Ruler(4, 0, 1), Ruler(4, 2, 3))
        self.caught(EmptyRuler, operator.sub, Ruler(4, 0, 1), Ruler(4, 0, 1))
        self.caught(EmptyRuler, operator.sub, Ruler(4, 0, 1), Ruler.full(4))

    def test_rulers_of_another_row(self):
        # With these marks no mark would be left, too: the row comes first.
        for last, other_last in ((4, 5), (5, 4), (1, 20), (20, 1)):
            for other_marks in ((0,), (1,), (0, 1)):
                ruler, other = Ruler(last, 0), Ruler(other_last, *other_marks)
                for call in MAKING + ORDER:
                    self.assertIs(self.caught(OtherRow, call, ruler, other).value, other)
                for call in TURNED_ORDER:
                    self.assertIs(self.caught(OtherRow, call, ruler, other).value, ruler)

    def test_subclasses_are_rulers(self):
        class OwnRuler(Ruler):
            pass
        r, s = Ruler(4, 0), OwnRuler(4, 0, 1)
        self.assertTrue(r < s and r <= s and s > r and s >= r and r != s and OwnRuler(4, 0) == r)
        self.assertFalse(s < r or s <= r or r > s or r >= s)
        other = OwnRuler(5, 0)
        for call in TURNED_ORDER:
            self.assertIs(self.caught(OtherRow, call, r, other).value, r)
            self.assertIs(self.caught(OtherRow, call, other, r).value, other)
        self.assertIsInstance(OwnRuler.full(3), OwnRuler)

    def test_foreign_values(self):
        ruler = Ruler(2, 0, 2)
        for value in foreign_values(Ruler):
            for call in MAKING + ORDER + TURNED_ORDER:
                self.caught(TypeError, call, ruler, value)
                if not isinstance(value, (Agreeable, Touchy)):
                    self.caught(TypeError, call, value, ruler)

    def test_operators_that_are_not_described(self):
        ruler, other = Ruler(2, 0, 2), Ruler(2, 1)
        for call in (operator.add, operator.mul, operator.xor, operator.mod, operator.floordiv):
            self.caught(TypeError, call, ruler, other)
        for call in (operator.pos, operator.invert, abs, int):
            self.caught(TypeError, call, ruler)

    def test_nothing_is_changed(self):
        ruler, other = Ruler(5, 0, 2), Ruler(5, 2, 4)
        given = [0, {"a": [1]}, [2, [3]]]
        kept = [0, {"a": [1]}, [2, [3]]]
        self.caught(InvalidRuler, Ruler, 5, *given)
        self.assertIs(Ruler.is_ruler(5, *given), False)
        self.caught(InvalidRuler, Ruler, given, 1)
        self.caught(InvalidRuler, Ruler.full, given)
        self.caught(InvalidNumber, operator.getitem, ruler, given)
        self.assertIs(given in ruler, False)
        for call in MAKING + ORDER + TURNED_ORDER:
            call(ruler, other)
            self.caught(TypeError, call, ruler, given)
        self.assertIs(ruler == given, False)
        -ruler
        self.assertEqual(given, kept)
        self.assertEqual((ruler.last, ruler.marks, ruler.places), (5, (0, 2), (0, 1, 2, 3, 4, 5)))
        self.assertEqual((other.last, other.marks), (5, (2, 4)))

    def test_true_and_false_are_no_integers(self):
        self.assertEqual(self.caught(InvalidRuler, Ruler, 1, False, True).spot, 0)
        self.assertEqual(self.caught(InvalidRuler, Ruler, True, 0).part, "last")
