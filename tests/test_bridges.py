"""The module bridges: single roundings, shortened rows of them, and bridges."""

import itertools
import random

from markrounds import bridges
from markrounds.bridges import bridge, needed_between, shortened, single_rounding
from markrounds.errors import InvalidNumber, InvalidWord, Lost, OtherRow, TooFew
from markrounds.jams import needed
from markrounds.maps import RowMap
from markrounds.roundings import DownRounding, UpRounding, made, word_of
from markrounds.rulers import Ruler
from values import (
    QuickCase, all_down_roundings, all_row_maps, all_up_roundings, drawn_roundings, no_texts, shared_parts,
    some_row_maps, wrong_integers,
)

KINDS = {"u": UpRounding, "d": DownRounding}


def words_with(many_up, many_down):
    many = many_up + many_down
    return ["".join("u" if spot in spots else "d" for spot in range(many))
            for spots in itertools.combinations(range(many), many_up)]


def lost_pair(f, g):
    """The first pair of places that f puts together and g does not, or None."""
    pairs = [(x, x + 1) for x in range(f.last) if f(x) == f(x + 1) and g(x) != g(x + 1)]
    return pairs[0] if pairs else None


def needed_by_definition(f, g):
    """The numbers of the document's fact about bridges, read word by word."""
    classes = g.classes
    a = [f(least) for least, _, _ in classes]
    b = [f(greatest) for _, greatest, _ in classes]
    v = [value for _, _, value in classes]
    many = len(classes)
    lengths = range(1, many + 1)
    ups = [k for i in range(many) for k in lengths
           if i + k <= many and all(a[i + j] < v[i] + j for j in range(k))]
    downs = [k for i in range(many) for k in lengths
             if i - k + 1 >= 0 and all(b[i - j] > v[i] - j for j in range(k))]
    return max(ups, default=0), max(downs, default=0)


def drawn_pairs(last, many, seed):
    """Pairs of maps of which the second is not lost for the first."""
    draw = random.Random(seed)
    firsts = some_row_maps(last, many, seed)
    pairs = [(RowMap.identity(last), f) for f in firsts[:many]]
    for f in firsts:
        values = sorted(set(f.images))
        goals = sorted(draw.choices(range(last + 1), k=len(values)))
        pairs.append((f, RowMap(*[goals[values.index(value)] for value in f.images])))
        pairs.append((f, RowMap(*[min(last, values.index(value) + 2) for value in f.images])))
    return pairs


class ModuleTest(QuickCase):

    def test_the_functions_are_defined_in_the_module(self):
        for name in ("single_rounding", "shortened", "needed_between", "bridge"):
            self.assertEqual(getattr(bridges, name).__module__, "markrounds.bridges")


class SingleRoundingTest(QuickCase):

    def check_map(self, f):
        still = all(f(f(place)) == f(place) for place in range(len(f)))
        up = all(f(place) >= place for place in range(len(f)))
        down = all(f(place) <= place for place in range(len(f)))
        found = single_rounding(f)
        if still and (up or down):
            self.assertIs(type(found), UpRounding if up else DownRounding)
            self.assertEqual(found.ruler.last, f.last)
            self.assertEqual(found.ruler.marks, tuple(sorted(set(f.images))))
            self.assertTrue(found.as_map() == f)
        else:
            self.assertIsNone(found)

    def test_all_maps_of_small_rows(self):
        for last in (1, 2, 3, 4, 5):
            for f in all_row_maps(last):
                self.check_map(f)

    def test_maps_of_longer_rows(self):
        draw = random.Random(3)
        for last in (6, 20):
            for f in some_row_maps(last, 40, last):
                self.check_map(f)
            for many in range(1, last + 1):
                marks = draw.sample(range(last + 1), many)
                for rounding in (UpRounding(Ruler(last, last, *marks)), DownRounding(Ruler(last, 0, *marks))):
                    self.check_map(rounding.as_map())
                    self.assertTrue(single_rounding(f=rounding.as_map()) == rounding)

    def test_the_identity_gives_an_up_rounding(self):
        for last in range(1, 21):
            found = single_rounding(RowMap.identity(last))
            self.assertIs(type(found), UpRounding)
            self.assertTrue(found.ruler == Ruler.full(last))

    def test_all_roundings_of_small_rows(self):
        for last in (1, 2, 3, 4):
            for rounding in all_up_roundings(last) + all_down_roundings(last):
                if rounding.as_map():
                    self.assertTrue(single_rounding(rounding.as_map()) == rounding)

    def test_maps_that_are_no_roundings(self):
        for f in (RowMap(0, 0, 3, 3), RowMap(1, 2, 2), RowMap(0, 0, 1), RowMap(1, 1, 1), RowMap.shift(20, 1)):
            self.assertIsNone(single_rounding(f))


class ShortenedTest(QuickCase):

    def check_roundings(self, last, roundings):
        found = shortened(last, *roundings)
        f = made(last, *roundings)
        many_up, many_down = needed(f)
        self.assertIs(type(found), tuple)
        self.assertTrue(made(last, *found) == f)
        self.assertEqual(word_of(found), "u" * many_up + "d" * many_down)
        self.assertEqual([type(rounding) for rounding in found], [KINDS[letter] for letter in word_of(found)])
        self.assertEqual(len(shortened(last, *found)), len(found))

    def test_none_and_one_and_two_roundings(self):
        for last in (1, 2, 3):
            self.check_roundings(last, ())
            roundings = all_up_roundings(last) + all_down_roundings(last)
            for rounding in roundings:
                self.check_roundings(last, (rounding,))
            for pair in itertools.product(roundings, repeat=2):
                self.check_roundings(last, pair)

    def test_no_roundings(self):
        for last in range(1, 21):
            self.assertEqual(shortened(last), ())
            self.assertEqual(shortened(last=last), ())

    def test_several_roundings_of_long_rows(self):
        for last in (5, 11, 20):
            for many in (3, 8, 20, 100):
                self.check_roundings(last, drawn_roundings(last, many, many))

    def test_roundings_that_move_nothing(self):
        full = Ruler.full(4)
        self.assertEqual(shortened(4, UpRounding(full), DownRounding(full)), ())

    def test_errors_as_made(self):
        up, other = UpRounding(Ruler(3, 0, 1, 3)), DownRounding(Ruler(4, 0))
        for last in wrong_integers(1, 20) + [shared_parts(98)]:
            for roundings in ((), (up,), (up, other)):
                self.assertTrue(self.caught(InvalidNumber, shortened, last, *roundings).value is last)
        self.assertIs(self.caught(OtherRow, shortened, 3, up, other, DownRounding(Ruler(2, 0))).value, other)
        self.assertIs(self.caught(OtherRow, shortened, 4, other, up).value, up)

    def test_nothing_is_changed(self):
        given = [3, [3]]
        up = UpRounding(Ruler(3, 0, 1, 3))
        shortened(3, up, up)
        self.caught(InvalidNumber, shortened, given, up)
        self.assertEqual((given, up.ruler.marks), ([3, [3]], (0, 1, 3)))


class NeededBetweenTest(QuickCase):

    def searched(self, last, start):
        """The pairs of numbers of roundings with which each map is reached from this one."""
        ups = [rounding.as_map().images for rounding in all_up_roundings(last)]
        downs = [rounding.as_map().images for rounding in all_down_roundings(last)]
        reached = {(0, 0): {start.images}}
        for many_up, many_down in itertools.product(range(last + 2), repeat=2):
            found = reached.setdefault((many_up, many_down), set())
            for before, kind in (((many_up - 1, many_down), ups), ((many_up, many_down - 1), downs)):
                for images in reached.get(before, ()):
                    found.update(tuple(step[value] for value in images) for step in kind)
        return reached

    def test_all_pairs_of_small_rows_by_a_search(self):
        for last in (1, 2, 3):
            for f in all_row_maps(last):
                reached = self.searched(last, f)
                for g in all_row_maps(last):
                    pairs = [pair for pair in sorted(reached) if g.images in reached[pair]]
                    if lost_pair(f, g):
                        self.assertEqual(pairs, [])
                        self.assertEqual(self.caught(Lost, needed_between, f, g).pair, lost_pair(f, g))
                    else:
                        least = needed_between(f, g)
                        wanted = [pair for pair in sorted(reached) if pair[0] >= least[0] and pair[1] >= least[1]]
                        self.assertEqual(pairs, wanted)

    def test_all_pairs_of_small_rows_by_the_definition(self):
        for f, g in itertools.product(all_row_maps(4), repeat=2):
            if lost_pair(f, g):
                self.assertEqual(self.caught(Lost, needed_between, f, g).pair, lost_pair(f, g))
            else:
                self.assertEqual(needed_between(f, g), needed_by_definition(f, g))

    def test_pairs_of_longer_rows(self):
        for last in (6, 12, 20):
            for f, g in drawn_pairs(last, 40, last):
                self.assertEqual(needed_between(f=f, g=g), needed_by_definition(f, g))

    def test_from_the_identity(self):
        for f in [f for last in (1, 2, 3, 4, 5) for f in all_row_maps(last)] + some_row_maps(20, 40, 5):
            self.assertEqual(needed_between(RowMap.identity(f.last), f), needed(f))

    def test_a_map_to_itself(self):
        for f in [f for last in (1, 2, 3, 4, 5) for f in all_row_maps(last)] + some_row_maps(20, 40, 6):
            self.assertEqual(needed_between(f, f), (0, 0))

    def test_lost_maps(self):
        for f, g, pair in ((RowMap(0, 0, 3, 3), RowMap(0, 1, 3, 3), (0, 1)),
                           (RowMap(0, 0, 3, 3), RowMap(0, 0, 2, 3), (2, 3)),
                           (RowMap(0, 0, 3, 3), RowMap(0, 1, 2, 3), (0, 1)),
                           (RowMap.constant(20, 3), RowMap(*[0] * 20, 20), (19, 20))):
            error = self.caught(Lost, needed_between, f, g)
            self.assertEqual(error.pair, pair)
            self.assertIs(type(error.pair), tuple)

    def test_maps_of_other_rows(self):
        for f, g in ((RowMap(0, 1), RowMap(0, 1, 2)), (RowMap.identity(20), RowMap.identity(19)),
                     (RowMap(0, 0, 0), RowMap(0, 1))):
            self.assertIs(self.caught(OtherRow, needed_between, f, g).value, g)
            self.assertIs(self.caught(OtherRow, bridge, f, g, "u").value, g)

    def test_two_bridges_in_a_row(self):
        for f, g, h in itertools.product(all_row_maps(2), repeat=3):
            if not (lost_pair(f, g) or lost_pair(g, h)):
                first, second, whole = needed_between(f, g), needed_between(g, h), needed_between(f, h)
                self.assertLessEqual(whole[0], first[0] + second[0])
                self.assertLessEqual(whole[1], first[1] + second[1])


class BridgeTest(QuickCase):

    def check_bridge(self, f, g, letters):
        some = bridge(f, g, letters)
        self.assertIs(type(some), tuple)
        self.assertEqual([type(rounding) for rounding in some], [KINDS[letter] for letter in letters])
        values = f.images
        for rounding in some:
            self.assertEqual(rounding.ruler.last, f.last)
            values = tuple(rounding(value) for value in values)
        self.assertEqual(values, g.images)

    def check_pair(self, f, g, more_ups, more_downs):
        many_up, many_down = needed_between(f, g)
        for more_up, more_down in itertools.product(range(more_ups + 1), range(more_downs + 1)):
            for letters in words_with(many_up + more_up, many_down + more_down):
                self.check_bridge(f, g, letters)

    def test_all_pairs_of_small_rows(self):
        for last in (1, 2, 3):
            for f, g in itertools.product(all_row_maps(last), repeat=2):
                if not lost_pair(f, g):
                    self.check_pair(f, g, 1, 1)

    def test_the_fewest_letters_in_every_order(self):
        for f, g in itertools.product(all_row_maps(4), repeat=2):
            if not lost_pair(f, g):
                self.check_pair(f, g, 0, 0)

    def test_pairs_of_longer_rows(self):
        draw = random.Random(4)
        for last in (6, 12, 20):
            for f, g in drawn_pairs(last, 40, last):
                many_up, many_down = needed_between(f, g)
                rest = 60 - many_up - many_down
                for more in (0, 1, 3, rest):
                    letters = list("u" * many_up + "d" * many_down) + draw.choices("ud", k=more)
                    draw.shuffle(letters)
                    self.check_bridge(f, g, "".join(letters))
                self.check_bridge(f, g, "u" * many_up + "d" * many_down)
                self.check_bridge(f, g, "d" * many_down + "u" * many_up)

    def test_a_bridge_from_a_map_to_itself(self):
        for f in some_row_maps(20, 10, 7):
            self.assertEqual(bridge(f, f, ""), ())
            self.check_bridge(f, f, "udud")

    def test_arguments_by_name(self):
        f, g = RowMap(0, 0, 3, 3), RowMap(1, 1, 3, 3)
        some = bridge(letters="u", g=g, f=f)
        self.assertTrue(f + some[0].as_map() == g)

    def test_too_few_letters(self):
        pairs = [pair for last in (2, 3) for pair in itertools.product(all_row_maps(last), repeat=2)]
        for f, g in pairs + drawn_pairs(20, 20, 9):
            if lost_pair(f, g):
                continue
            many_up, many_down = needed_between(f, g)
            if many_up > 0:
                for letters in ("u" * (many_up - 1) + "d" * many_down, "d" * (many_down + 3), ""):
                    self.assertEqual(self.caught(TooFew, bridge, f, g, letters).reason, "u")
            if many_down > 0:
                for letters in ("u" * many_up + "d" * (many_down - 1), "u" * (many_up + 3)):
                    self.assertEqual(self.caught(TooFew, bridge, f, g, letters).reason, "d")
            if many_up > 0 and many_down > 0:
                self.assertEqual(self.caught(TooFew, bridge, f, g, "").reason, "u")
                letters = "d" * (many_down - 1) + "u" * (many_up - 1)
                self.assertEqual(self.caught(TooFew, bridge, f, g, letters).reason, "u")

    def test_lost_maps(self):
        for f, g in itertools.product(all_row_maps(3), repeat=2):
            if lost_pair(f, g):
                for letters in ("", "u", "ud" * 30):
                    self.assertEqual(self.caught(Lost, bridge, f, g, letters).pair, lost_pair(f, g))

    def test_wrong_words_come_first(self):
        f = RowMap(0, 0, 3, 3)
        for g in (RowMap(1, 1, 3, 3), RowMap(0, 1), RowMap(0, 1, 2, 3)):
            for value in no_texts() + [["u"], b"u", shared_parts(60), "u" * 61, "x" * 61]:
                self.assertIsNone(self.caught(InvalidWord, bridge, f, g, value).spot)
            for letters, spot in (("x", 0), ("uU", 1), ("d" * 59 + " ", 59), ("u\nd", 1)):
                self.assertEqual(self.caught(InvalidWord, bridge, f, g, letters).spot, spot)

    def test_another_row_comes_before_too_few_letters(self):
        f, g = RowMap(0, 0, 0), RowMap(0, 1, 2, 3)
        for letters in ("", "u", "ud" * 30):
            self.assertIs(self.caught(OtherRow, bridge, f, g, letters).value, g)

    def test_nothing_is_changed(self):
        f, g, lost = RowMap(0, 0, 3, 3), RowMap(1, 1, 3, 3), RowMap(0, 1, 3, 3)
        given = ["u", ["d"]]
        self.caught(InvalidWord, bridge, f, g, given)
        self.caught(Lost, bridge, f, lost, "u")
        self.caught(TooFew, bridge, f, g, "")
        bridge(f, g, "ud")
        needed_between(f, g)
        self.assertEqual((f.images, g.images, lost.images, given),
                         ((0, 0, 3, 3), (1, 1, 3, 3), (0, 1, 3, 3), ["u", ["d"]]))
