"""The functions made and word_of."""

import itertools

from markrounds.errors import InvalidNumber, OtherRow
from markrounds.maps import RowMap
from markrounds.roundings import DownRounding, UpRounding, made, word_of
from markrounds.rulers import Ruler
from values import QuickCase, all_down_roundings, all_up_roundings, drawn_roundings, wrong_integers

UP, DOWN = UpRounding(Ruler(3, 0, 1, 3)), DownRounding(Ruler(3, 0, 3))


class MadeTest(QuickCase):

    def test_no_roundings(self):
        for last in range(1, 21):
            self.assertIs(type(made(last)), RowMap)
            self.assertEqual(made(last).images, tuple(range(last + 1)))
            self.assertEqual(made(last=last).images, tuple(range(last + 1)))

    def test_one_rounding(self):
        for last in (1, 2, 3, 4):
            for rounding in all_up_roundings(last) + all_down_roundings(last):
                self.assertTrue(made(last, rounding) == rounding.as_map())

    def test_two_and_three_roundings_of_both_kinds(self):
        for last, many in ((1, 2), (2, 2), (3, 2), (2, 3)):
            roundings = all_up_roundings(last) + all_down_roundings(last)
            for row in itertools.product(roundings, repeat=many):
                wanted = []
                for place in range(last + 1):
                    for rounding in row:
                        place = rounding(place)
                    wanted.append(place)
                self.assertEqual(made(last, *row).images, tuple(wanted))

    def test_their_order(self):
        self.assertEqual(made(3, UP, DOWN).images, (0, 0, 3, 3))
        self.assertEqual(made(3, DOWN, UP).images, (0, 0, 0, 3))
        self.assertEqual(made(3, UP, DOWN, UP, DOWN).images, (0, 0, 3, 3))

    def test_many_roundings(self):
        for last in (5, 20):
            for many in (10, 400):
                roundings = drawn_roundings(last, many, many)
                wanted = RowMap.identity(last)
                for rounding in roundings:
                    wanted = wanted + rounding.as_map()
                self.assertTrue(made(last, *roundings) == wanted)

    def test_wrong_last_places(self):
        for last in wrong_integers(1, 20):
            for roundings in ((), (UP,), (UP, DOWN)):
                self.assertTrue(self.caught(InvalidNumber, made, last, *roundings).value is last)

    def test_the_first_rounding_of_another_row(self):
        others = (UpRounding(Ruler(4, 4)), DownRounding(Ruler(2, 0)), UpRounding(Ruler(20, 20)))
        for first, second in itertools.combinations(range(5), 2):
            for other, later in itertools.permutations(others, 2):
                roundings = [UP, DOWN, UP, UP, DOWN]
                roundings[first], roundings[second] = other, later
                self.assertIs(self.caught(OtherRow, made, 3, *roundings).value, other)
        self.assertIs(self.caught(OtherRow, made, 4, UP, DOWN).value, UP)
        self.assertIs(self.caught(OtherRow, made, 4, others[0], DOWN, UP).value, DOWN)

    def test_a_wrong_last_place_comes_first(self):
        for last in (0, 21, None, True, "3", [3]):
            self.assertTrue(self.caught(InvalidNumber, made, last, UpRounding(Ruler(4, 4)), UP).value is last)

    def test_nothing_is_changed(self):
        roundings = [UP, DOWN, UP]
        given = [3, [3]]
        made(3, *roundings)
        word_of(roundings)
        self.caught(InvalidNumber, made, given, *roundings)
        self.assertEqual(given, [3, [3]])
        self.assertTrue(roundings[0] is UP and roundings[1] is DOWN and roundings[2] is UP and len(roundings) == 3)
        self.assertEqual((UP.ruler.marks, DOWN.ruler.marks), ((0, 1, 3), (0, 3)))
        self.assertIsNot(made(3, UP), made(3, UP))


class WordOfTest(QuickCase):

    def test_lists_and_tuples(self):
        for form in (list, tuple):
            self.assertEqual(word_of(form([])), "")
            self.assertEqual(word_of(form([UP])), "u")
            self.assertEqual(word_of(form([DOWN])), "d")
            self.assertEqual(word_of(form([UP, UP, DOWN, UP, DOWN])), "uudud")
            self.assertEqual(word_of(roundings=form([DOWN, UP])), "du")

    def test_400_roundings(self):
        roundings = drawn_roundings(7, 400, 5)
        wanted = "".join("u" if type(rounding) is UpRounding else "d" for rounding in roundings)
        self.assertTrue(len(wanted) == 400 and "u" in wanted and "d" in wanted)
        for form in (list, tuple):
            self.assertEqual(word_of(form(roundings)), wanted)

    def test_roundings_of_several_rows(self):
        self.assertEqual(word_of([UP, DownRounding(Ruler(20, 0)), UpRounding(Ruler(1, 1))]), "udu")
