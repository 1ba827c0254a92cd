"""The facts of the document about roundings, sums, mirrored maps and maps beside each other."""

import itertools

from markrounds.jams import needed
from markrounds.maps import RowMap
from markrounds.roundings import DownRounding, UpRounding, made
from markrounds.rulers import Ruler
from markrounds.words import Filler
from values import QuickCase, all_down_roundings, all_row_maps, all_rulers, all_up_roundings, some_row_maps


class RoundingsAsMapsTest(QuickCase):

    def test_which_maps_are_roundings(self):
        for last in (1, 2, 3, 4, 5):
            up_images = [rounding.as_map().images for rounding in all_up_roundings(last)]
            down_images = [rounding.as_map().images for rounding in all_down_roundings(last)]
            for f in all_row_maps(last):
                still = all(f(f(place)) == f(place) for place in range(last + 1))
                up = all(f(place) >= place for place in range(last + 1))
                down = all(f(place) <= place for place in range(last + 1))
                self.assertEqual(f.images in up_images, up and still)
                self.assertEqual(f.images in down_images, down and still)
                self.assertEqual(f.images in up_images, f.is_up and f.is_still)
                self.assertEqual(f.images in down_images, f.is_down and f.is_still)

    def test_the_marks_of_a_rounding_are_its_values(self):
        for last in (1, 2, 3, 4, 5):
            for rounding in all_up_roundings(last) + all_down_roundings(last):
                f = rounding.as_map()
                self.assertEqual(rounding.ruler.marks, tuple(sorted(set(f.images))))
                self.assertTrue(type(rounding)(Ruler(last, *f.images)) == rounding)

    def test_a_rounding_needs_itself_alone(self):
        for last in (1, 2, 3, 4, 5):
            for rounding in all_up_roundings(last) + all_down_roundings(last):
                pair = needed(rounding.as_map())
                if rounding.as_map():
                    self.assertEqual(pair, (1, 0) if rounding.LETTER == "u" else (0, 1))
                else:
                    self.assertEqual(pair, (0, 0))


class NeedsTest(QuickCase):

    def test_sums(self):
        pairs = [pair for last in (1, 2, 3) for pair in itertools.product(all_row_maps(last), repeat=2)]
        long_maps = some_row_maps(20, 20, 9)
        for f, g in pairs + list(itertools.product(long_maps, repeat=2)):
            both, first, second = needed(f + g), needed(f), needed(g)
            self.assertLessEqual(both[0], first[0] + second[0])
            self.assertLessEqual(both[1], first[1] + second[1])

    def test_fillings_of_two_maps_one_after_the_other_make_their_sum(self):
        for f, g in itertools.product(all_row_maps(3), repeat=2):
            steps = [*Filler("duduud")(f), *Filler("uddudu")(g)]
            self.assertTrue(made(3, *steps) == f + g)

    def test_maps_that_need_no_roundings_of_a_kind(self):
        for f in [f for last in (1, 2, 3, 4, 5) for f in all_row_maps(last)] + some_row_maps(20, 40, 10):
            many_up, many_down = needed(f)
            self.assertEqual(many_up == 0, all(f(place) <= place for place in range(len(f))))
            self.assertEqual(many_down == 0, all(f(place) >= place for place in range(len(f))))

    def test_mirrored_maps(self):
        for f in [f for last in (1, 2, 3, 4, 5) for f in all_row_maps(last)] + some_row_maps(20, 40, 11):
            self.assertEqual(needed(-f), needed(f)[::-1])

    def test_mirrored_fillings_make_the_mirrored_map(self):
        for f in all_row_maps(4):
            many_up, many_down = needed(f)
            steps = Filler("ud" * max(many_up, many_down))(f)
            self.assertTrue(made(4, *[-rounding for rounding in steps]) == -f)

    def test_maps_beside_each_other(self):
        pairs = list(itertools.product(all_row_maps(2) + all_row_maps(3), repeat=2))
        pairs = pairs + list(itertools.product(some_row_maps(9, 10, 12), some_row_maps(10, 10, 13)))
        for f, g in pairs:
            first, second = needed(f), needed(g)
            self.assertEqual(needed(f.beside(g)), (max(first[0], second[0]), max(first[1], second[1])))


class RulersTest(QuickCase):

    def test_sums_keep_the_order_of_maps(self):
        maps = [rounding.as_map() for rounding in all_up_roundings(3) + all_down_roundings(3)]
        pairs = [(f, g) for f, g in itertools.product(maps, repeat=2) if f <= g]
        for (f, f_above), (g, g_above) in itertools.product(pairs, repeat=2):
            self.assertTrue(f + g <= f_above + g_above)

    def check_inside(self, kind, rulers):
        for ruler, part in itertools.product(rulers, repeat=2):
            if part <= ruler:
                one, other = kind(ruler), kind(part)
                self.assertTrue(one + other == other.as_map())
                self.assertTrue(other + one == other.as_map())

    def test_rulers_inside_rulers(self):
        for last in (1, 2, 3, 4):
            self.check_inside(UpRounding, [ruler for ruler in all_rulers(last) if last in ruler])
            self.check_inside(DownRounding, [ruler for ruler in all_rulers(last) if 0 in ruler])

    def test_rulers_inside_long_rulers(self):
        rulers = [Ruler(20, 0, 20, *range(start, 20, step)) for start in range(3) for step in (1, 2, 4, 8, 16)]
        self.check_inside(UpRounding, rulers)
        self.check_inside(DownRounding, rulers)

    def test_lesser_and_greater_values_are_of_both_rulers(self):
        for last in (1, 2, 3, 4):
            for one, other in itertools.product(all_up_roundings(last), repeat=2):
                both = UpRounding(one.ruler | other.ruler)
                self.assertTrue(one.as_map() & other.as_map() == both.as_map())
            for one, other in itertools.product(all_down_roundings(last), repeat=2):
                both = DownRounding(one.ruler | other.ruler)
                self.assertTrue(one.as_map() | other.as_map() == both.as_map())
