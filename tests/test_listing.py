"""The module listing: the numbers of maps, lists of maps, and the table of needs."""

import itertools
import random
from math import factorial

from markrounds import listing
from markrounds.errors import InvalidNumber, InvalidRank, LimitExceeded
from markrounds.jams import needed
from markrounds.listing import MAX_TABLE, all_maps, count_maps, map_by_rank, needs_table, rank_of_map
from markrounds.maps import RowMap
from values import HUGE, QuickCase, all_images, all_row_maps, no_integers, some_row_maps, wrong_integers


def maps_in_a_row(last):
    """How many maps the row has, by the document's formula."""
    return factorial(2 * last + 1) // (factorial(last) * factorial(last + 1))


def wrong_ranks(high):
    """No integers, and integers that are not from 0 to high."""
    return no_integers() + [-1, -2, -1000, -HUGE, -2 ** 64, high + 1, high + 2, 2 * high + 1, HUGE, 2 ** 64]


def drawn_ranks(last, many, seed):
    draw = random.Random(seed)
    return [draw.randrange(maps_in_a_row(last)) for _ in range(many)]


def first_of(*given):
    """The first map of a list; errors may be raised by the call or by the reading."""
    return next(iter(all_maps(*given)))


def listed(last, start, many):
    return [f.images for f in itertools.islice(all_maps(last, start), many)]


class ModuleTest(QuickCase):

    def test_the_functions_are_defined_in_the_module(self):
        for name in ("count_maps", "map_by_rank", "rank_of_map", "all_maps", "needs_table"):
            self.assertEqual(getattr(listing, name).__module__, "markrounds.listing")
        self.assertEqual(MAX_TABLE, 5)


class CountTest(QuickCase):

    def test_all_last_places(self):
        for last in range(1, 21):
            self.assertEqual(count_maps(last), maps_in_a_row(last))
            self.assertEqual(count_maps(last=last), maps_in_a_row(last))
            self.assertIs(type(count_maps(last)), int)

    def test_small_rows(self):
        for last in (1, 2, 3, 4, 5):
            self.assertEqual(count_maps(last), len(all_images(last)))

    def test_wrong_last_places(self):
        for last in wrong_integers(1, 20):
            self.assertTrue(self.caught(InvalidNumber, count_maps, last).value is last)


class RankTest(QuickCase):

    def test_all_maps_of_small_rows(self):
        for last in (1, 2, 3, 4, 5):
            for rank, images in enumerate(sorted(all_images(last))):
                f = map_by_rank(last, rank)
                self.assertIs(type(f), RowMap)
                self.assertEqual(f.images, images)
                self.assertEqual(rank_of_map(RowMap(*images)), rank)

    def test_the_first_and_the_last_map(self):
        for last in range(1, 21):
            many = maps_in_a_row(last)
            first, end = RowMap.constant(last, 0), RowMap.constant(last, last)
            self.assertEqual((rank_of_map(first), rank_of_map(end)), (0, many - 1))
            self.assertTrue(map_by_rank(last, 0) == first)
            self.assertTrue(map_by_rank(last=last, rank=many - 1) == end)

    def test_both_functions_undo_each_other(self):
        for last in range(6, 21):
            for rank in drawn_ranks(last, 40, last):
                self.assertEqual(rank_of_map(map_by_rank(last, rank)), rank)
            for f in some_row_maps(last, 40, last + 1):
                self.assertTrue(map_by_rank(last, rank_of_map(f=f)) == f)

    def test_greater_numbers_mean_greater_tuples(self):
        for last in (7, 20):
            ranks = sorted(set(drawn_ranks(last, 60, last + 2)))
            rows = [map_by_rank(last, rank).images for rank in ranks]
            self.assertEqual(rows, sorted(set(rows)))
            for f, g in itertools.product(some_row_maps(last, 12, last + 3), repeat=2):
                self.assertEqual(rank_of_map(f) < rank_of_map(g), f.images < g.images)

    def next_images(self, images):
        """The least greater tuple of a map: the last value that can is made greater by one."""
        last = len(images) - 1
        spot = max(place for place in range(len(images)) if images[place] < last)
        return images[:spot] + (images[spot] + 1,) * (len(images) - spot)

    def test_the_map_that_comes_next_has_the_next_number(self):
        for last in (6, 13, 20):
            for f in some_row_maps(last, 30, last + 4):
                if f.images[0] < last:
                    following = RowMap(*self.next_images(f.images))
                    self.assertEqual(rank_of_map(following), rank_of_map(f) + 1)
                    self.assertTrue(map_by_rank(last, rank_of_map(f) + 1) == following)

    def test_wrong_numbers(self):
        for last in (1, 2, 20):
            for rank in wrong_ranks(maps_in_a_row(last) - 1):
                self.assertTrue(self.caught(InvalidRank, map_by_rank, last, rank).value is rank)

    def test_a_wrong_last_place_comes_first(self):
        for last in wrong_integers(1, 20):
            for rank in (0, -1, None, True, HUGE, "0", last):
                self.assertTrue(self.caught(InvalidNumber, map_by_rank, last, rank).value is last)

    def test_nothing_is_changed(self):
        given = [0, {"a": [1]}, [2, [3]]]
        self.caught(InvalidRank, map_by_rank, 3, given)
        self.caught(InvalidNumber, map_by_rank, given, given)
        self.caught(InvalidNumber, count_maps, given)
        self.caught(InvalidNumber, needs_table, given)
        self.caught(InvalidNumber, first_of, given)
        self.caught(InvalidRank, first_of, 3, given)
        self.assertEqual(given, [0, {"a": [1]}, [2, [3]]])
        f = RowMap(0, 0, 3, 3)
        rank_of_map(f)
        self.assertEqual(f.images, (0, 0, 3, 3))
        self.assertIsNot(map_by_rank(3, 7), map_by_rank(3, 7))


class AllMapsTest(QuickCase):

    def test_from_every_number_on(self):
        for last in (1, 2, 3):
            rows = sorted(all_images(last))
            for start in range(len(rows) + 1):
                self.assertEqual([f.images for f in all_maps(last, start)], rows[start:])
                self.assertEqual([f.images for f in all_maps(last=last, start=start)], rows[start:])

    def test_from_the_first_map_on(self):
        for last in (1, 2, 3, 4, 5):
            rows = list(all_maps(last))
            self.assertEqual([f.images for f in rows], sorted(all_images(last)))
            self.assertEqual({type(f) for f in rows}, {RowMap})

    def test_near_a_number(self):
        for last in (8, 20):
            for start in drawn_ranks(last, 10, last):
                rows = list(itertools.islice(all_maps(last, start), 30))
                self.assertEqual([rank_of_map(f) for f in rows], list(range(start, start + len(rows))))

    def test_near_the_end(self):
        for last in (8, 20):
            many = maps_in_a_row(last)
            for rest in (0, 1, 2, 50):
                rows = list(all_maps(last, many - rest))
                self.assertEqual([rank_of_map(f) for f in rows], list(range(many - rest, many)))
            self.assertTrue(list(all_maps(last, many - 1))[0] == RowMap.constant(last, last))

    def test_wrong_starts(self):
        for last in (1, 3, 20):
            for start in wrong_ranks(maps_in_a_row(last)):
                self.assertTrue(self.caught(InvalidRank, first_of, last, start).value is start)

    def test_wrong_last_places_come_first(self):
        for last in wrong_integers(1, 20):
            self.assertTrue(self.caught(InvalidNumber, first_of, last).value is last)
            for start in (0, -1, None, True, HUGE, last):
                self.assertTrue(self.caught(InvalidNumber, first_of, last, start).value is last)

    def test_truth_values_are_no_numbers(self):
        for value in (True, False):
            self.assertIs(self.caught(InvalidRank, map_by_rank, 1, value).value, value)
            self.assertIs(self.caught(InvalidRank, first_of, 1, value).value, value)
            self.assertIs(self.caught(InvalidNumber, first_of, value).value, value)

    def test_a_caller_may_stop_early(self):
        for f in all_maps(20):
            if f(20) == 2:
                break
        self.assertEqual(f.images, (0,) * 20 + (2,))
        self.assertEqual(listed(20, 0, 3), [(0,) * 21, (0,) * 20 + (1,), (0,) * 20 + (2,)])

    def test_two_lists_at_once(self):
        rows = sorted(all_images(2))
        one, other = iter(all_maps(2)), iter(all_maps(2, 4))
        found = [(next(one).images, next(other).images) for _ in range(6)]
        self.assertEqual(found, list(zip(rows[:6], rows[4:])))
        self.assertEqual([f.images for f in one], rows[6:])
        self.assertEqual(list(other), [])
        pairs = [(f.images, g.images) for f in all_maps(2) for g in all_maps(2)]
        self.assertEqual(pairs, list(itertools.product(rows, repeat=2)))


class TableTest(QuickCase):

    def wanted_table(self, last):
        pairs = [needed(f) for f in all_row_maps(last)]
        return tuple(tuple(pairs.count((many_up, many_down)) for many_down in range(last + 1))
                     for many_up in range(last + 1))

    def test_all_last_places(self):
        for last in (1, 2, 3, 4, 5):
            table = needs_table(last)
            self.assertIs(type(table), tuple)
            self.assertEqual([type(row) for row in table], [tuple] * (last + 1))
            self.assertEqual([len(row) for row in table], [last + 1] * (last + 1))
            self.assertEqual(table, self.wanted_table(last))
            self.assertEqual(needs_table(last=last), table)

    def test_ups_and_downs_exchanged(self):
        for last in (1, 2, 3, 4, 5):
            self.assertEqual(tuple(zip(*needs_table(last))), needs_table(last))

    def test_the_sum(self):
        for last in (1, 2, 3, 4, 5):
            self.assertEqual(sum(sum(row) for row in needs_table(last)), maps_in_a_row(last))

    def test_longer_rows(self):
        for last in range(6, 21):
            self.assertEqual(self.caught(LimitExceeded, needs_table, last).limit, 5)

    def test_wrong_last_places(self):
        for last in wrong_integers(1, 20):
            self.assertTrue(self.caught(InvalidNumber, needs_table, last).value is last)
