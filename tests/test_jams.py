"""The module jams: how many roundings a map needs, and the jams that show it."""

import itertools

from markrounds.errors import InvalidAnswer
from markrounds.jams import check_jam, down_jam, downs, needed, up_jam, ups
from markrounds.maps import RowMap
from values import (
    HUGE, QuickCase, all_down_roundings, all_images, all_row_maps, all_up_roundings, shared_parts,
    some_row_maps, values_of_every_kind, wrong_integers,
)


def is_jam(kind, number, length, f):
    """Tell by the definition whether there is this jam."""
    images = f.images
    classes = [[place for place in range(len(images)) if images[place] == value] for value in sorted(set(images))]
    for step in range(length):
        at = number + step if kind == "up" else number - step
        if not 0 <= at < len(classes):
            return False
        value = images[classes[number][0]]
        if kind == "up" and not min(classes[at]) < value + step:
            return False
        if kind == "down" and not max(classes[at]) > value - step:
            return False
    return length >= 1


def jam_lengths(kind, f):
    """The length of a longest jam at each class, found by trying all lengths."""
    many = len(set(f.images))
    return [max([0] + [length for length in range(1, many + 2) if is_jam(kind, number, length, f)])
            for number in range(many)]


def fewest_roundings(last):
    """The pairs of numbers of up- and down-roundings for each map, found by trying all rows of roundings."""
    kinds = [[rounding.as_map().images for rounding in roundings]
             for roundings in (all_up_roundings(last), all_down_roundings(last))]
    # No map needs more than last + 1 of a kind, if it can be made at all.
    bound = last + 2
    reached = {(0, 0): {tuple(range(last + 1))}}
    for pair in sorted(itertools.product(range(bound), repeat=2), key=sum):
        found = reached.setdefault(pair, set())
        for before, images in (((pair[0] - 1, pair[1]), kinds[0]), ((pair[0], pair[1] - 1), kinds[1])):
            for values in reached.get(before, ()):
                found.update(tuple(rounding[value] for value in values) for rounding in images)
    return {values: [pair for pair in reached if values in reached[pair]] for values in all_images(last)}


class NeededTest(QuickCase):

    def test_the_fewest_roundings_of_all_maps_of_small_rows(self):
        for last in (1, 2, 3, 4):
            for values, pairs in fewest_roundings(last).items():
                f = RowMap(*values)
                wanted = (min(pair[0] for pair in pairs), min(pair[1] for pair in pairs))
                # Both numbers can be reached together.
                self.assertIn(wanted, pairs)
                self.assertEqual((ups(f), downs(f)), wanted)
                self.assertEqual(needed(f), wanted)

    def test_some_maps(self):
        for images, pair in (
            ((1, 2, 2), (2, 0)), ((0, 0, 1, 2), (0, 3)), ((0, 0, 3, 3), (1, 1)), ((1, 1), (1, 0)), ((0, 0), (0, 1)),
            ((1, 1, 1, 2), (1, 2)), ((0, 2, 2, 2, 4), (1, 1)), ((1, 1, 2, 2, 3), (1, 2)),
        ):
            f = RowMap(*images)
            self.assertEqual((needed(f), ups(f), downs(f)), (pair, *pair))

    def test_identity_constants_and_shifts(self):
        for last in range(1, 21):
            self.assertEqual(needed(RowMap.identity(last)), (0, 0))
            for value in range(last + 1):
                self.assertEqual(needed(RowMap.constant(last, value)), (int(value > 0), int(value < last)))
            # All places but the ends wait for each other, so each letter moves one more class.
            for by in range(1, last):
                self.assertEqual(needed(RowMap.shift(last, by)), (last - by + 1, 0))
                self.assertEqual(needed(RowMap.shift(last, -by)), (0, last - by + 1))

    def test_maps_of_longer_rows(self):
        for last in (5, 9, 20):
            for f in some_row_maps(last, 40, last):
                wanted = (max(jam_lengths("up", f)), max(jam_lengths("down", f)))
                self.assertEqual((ups(f), downs(f), needed(f)), (*wanted, wanted))

    def test_answers_are_integers_and_tuples(self):
        for f in all_row_maps(3):
            self.assertIs(type(needed(f)), tuple)
            self.assertEqual({type(ups(f)), type(downs(f))} | {type(part) for part in needed(f)}, {int})

    def test_arguments_by_name(self):
        f = RowMap(1, 2, 2)
        self.assertEqual((ups(f=f), downs(f=f), needed(f=f)), (2, 0, (2, 0)))
        self.assertEqual((up_jam(f=f), down_jam(f=f)), (("up", 0, 2), None))
        self.assertEqual(check_jam(f=f, answer=("up", 0, 2)), 2)
        self.assertEqual(check_jam(answer=("up", 0, 2), f=f), 2)


class JamTest(QuickCase):

    def check_answers(self, f):
        for kind, answer in (("up", up_jam(f)), ("down", down_jam(f))):
            longest = max(jam_lengths(kind, f))
            if longest == 0:
                self.assertIsNone(answer)
            else:
                self.assertIs(type(answer), tuple)
                self.assertEqual([type(part) for part in answer], [str, int, int])
                self.assertEqual((answer[0], answer[2]), (kind, longest))
                self.assertTrue(is_jam(*answer, f))
                self.assertEqual(check_jam(f, answer), longest)

    def test_all_maps_of_small_rows(self):
        for last in (1, 2, 3, 4, 5):
            for f in all_row_maps(last):
                self.check_answers(f)

    def test_maps_of_longer_rows(self):
        for last in (9, 20):
            for f in some_row_maps(last, 40, last + 1):
                self.check_answers(f)

    def test_no_jams(self):
        for last in (1, 20):
            f = RowMap.identity(last)
            self.assertEqual((up_jam(f), down_jam(f)), (None, None))
        self.assertEqual((up_jam(RowMap(1, 1)), down_jam(RowMap(1, 1))), (("up", 0, 1), None))
        self.assertEqual((up_jam(RowMap(0, 0)), down_jam(RowMap(0, 0))), (None, ("down", 0, 1)))


class CheckJamTest(QuickCase):

    def wrong_part(self, f, answer):
        return self.caught(InvalidAnswer, check_jam, f, answer).part

    def check_all(self, f):
        for kind in ("up", "down"):
            lengths = jam_lengths(kind, f)
            for number, longest in enumerate(lengths):
                for length in range(-1, longest + 3):
                    answer = (kind, number, length)
                    if 1 <= length <= longest:
                        self.assertEqual(check_jam(f, answer), length)
                    else:
                        self.assertEqual(self.wrong_part(f, answer), "length")
            for number in (-2, -1, len(lengths), len(lengths) + 1):
                for length in (0, 1):
                    self.assertEqual(self.wrong_part(f, (kind, number, length)), "class")

    def test_all_jams_of_small_rows(self):
        for last in (1, 2, 3, 4):
            for f in all_row_maps(last):
                self.check_all(f)

    def test_all_jams_of_some_maps_of_the_longest_row(self):
        for f in some_row_maps(20, 10, 4):
            self.check_all(f)

    def test_the_length_is_returned(self):
        f = RowMap.shift(5, 1)
        lengths = [check_jam(f, ("up", 0, length)) for length in range(1, 6)]
        self.assertEqual((lengths, {type(length) for length in lengths}), ([1, 2, 3, 4, 5], {int}))
        for length in range(1, 5):
            self.assertEqual(check_jam(-f, ("down", 4, length)), length)

    def test_values_that_are_no_answers(self):
        for f in (RowMap(1, 2, 2), RowMap.identity(20)):
            for value in values_of_every_kind():
                self.assertEqual(self.wrong_part(f, value), "form")
            for value in (["up", 0, 1], ["down", 0, 1], "up0", {"up": 0, 0: 1, 1: 2}, ("up",), ("up", 0),
                          ("up", 0, 1, 1), ("up", 0, 1, None), (), (("up", 0, 1),), ("up", "up", "up")[:2]):
                self.assertEqual(self.wrong_part(f, value), "form")

    def test_tuples_that_begin_with_something_else(self):
        f = RowMap(1, 2, 2)
        for kind in values_of_every_kind() + ["Up", "UP", "up ", " up", "u", "d", "downs", b"up", ["up"], ("up",), 0]:
            self.assertEqual(self.wrong_part(f, (kind, 0, 1)), "form")

    def test_wrong_classes_of_every_kind(self):
        f = RowMap(1, 2, 2)
        for number in wrong_integers(0, 1):
            for kind in ("up", "down"):
                self.assertEqual(self.wrong_part(f, (kind, number, 1)), "class")

    def test_wrong_lengths_of_every_kind(self):
        f = RowMap(1, 2, 2)
        for length in wrong_integers(1, 2):
            self.assertEqual(self.wrong_part(f, ("up", 0, length)), "length")
        for length in wrong_integers(1, 0):
            self.assertEqual(self.wrong_part(f, ("down", 0, length)), "length")

    def test_true_and_false_are_no_integers(self):
        f = RowMap(1, 2, 2)
        self.assertEqual(check_jam(f, ("up", 1, 1)), 1)
        self.assertEqual(self.wrong_part(f, ("up", True, 1)), "class")
        self.assertEqual(self.wrong_part(f, ("up", False, 1)), "class")
        self.assertEqual(self.wrong_part(f, ("up", 1, True)), "length")
        self.assertEqual(self.wrong_part(f, (True, 0, 1)), "form")

    def test_several_faults_at_once(self):
        f = RowMap(1, 2, 2)
        for wrong in (None, -1, 5, HUGE, True, "up", [0], shared_parts(60)):
            self.assertEqual(self.wrong_part(f, ("left", wrong, wrong)), "form")
            self.assertEqual(self.wrong_part(f, ["up", wrong, wrong]), "form")
            self.assertEqual(self.wrong_part(f, ("up", wrong)), "form")
            self.assertEqual(self.wrong_part(f, ("up", wrong, wrong)), "class")
            self.assertEqual(self.wrong_part(f, ("up", 0, wrong)), "length")

    def test_parts_with_very_many_parts(self):
        f, many = RowMap(1, 2, 2), shared_parts(60)
        self.assertEqual(self.wrong_part(f, many), "form")
        self.assertEqual(self.wrong_part(f, (many, many, many)), "form")
        self.assertEqual(self.wrong_part(f, ("up", many, many)), "class")
        self.assertEqual(self.wrong_part(f, ("down", 0, many)), "length")

    def test_nothing_is_changed(self):
        f = RowMap(1, 2, 2)
        given = ["up", [0], {"a": [1]}]
        self.assertEqual(self.wrong_part(f, given), "form")
        self.assertEqual(self.wrong_part(f, ("up", given, given)), "class")
        self.assertEqual(self.wrong_part(f, ("up", 0, given)), "length")
        ups(f), downs(f), needed(f), up_jam(f), down_jam(f), check_jam(f, ("up", 0, 1))
        self.assertEqual(given, ["up", [0], {"a": [1]}])
        self.assertEqual((f.images, f.classes), ((1, 2, 2), ((0, 0, 1), (1, 2, 2))))
