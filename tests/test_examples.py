"""The examples of the document, as it writes them."""

import unittest

from markrounds.jams import check_jam, needed, up_jam
from markrounds.maps import RowMap
from markrounds.roundings import DownRounding, UpRounding, made, word_of
from markrounds.rulers import Ruler
from markrounds.words import Filler, fewest_word


class ExamplesTest(unittest.TestCase):

    def test_rulers(self):
        r = Ruler(5, 2, 5, 0)
        self.assertEqual(
            (r.marks, r[1], 3 in r, (-r).marks, (r | Ruler(5, 3)).marks, (r - Ruler(5, 0)).marks, Ruler(5, 2) <= r),
            ((0, 2, 5), 2, False, (0, 3, 5), (0, 2, 3, 5), (2, 5), True))

    def test_maps(self):
        f, g = RowMap(0, 0, 3, 3), RowMap.shift(3, 1)
        self.assertEqual(
            ((f + g).images, (g + f).images, (f & g).images, f.classes, (-g).images, f <= g, f(2), 1 in f, f.is_still),
            ((1, 1, 3, 3), (0, 3, 3, 3), (0, 0, 3, 3), ((0, 1, 0), (2, 3, 3)), (0, 0, 1, 2), True, 3, False, True))

    def test_roundings(self):
        up, down = UpRounding(Ruler(3, 0, 1, 3)), DownRounding(Ruler(3, 0, 3))
        self.assertEqual(
            (up(2), down(2), (up + down).images, made(3, down, up).images, (-up).LETTER, (-up).ruler.marks),
            (3, 0, (0, 0, 3, 3), (0, 0, 0, 3), "d", (0, 2, 3)))

    def test_jams(self):
        self.assertEqual(
            (needed(RowMap(1, 2, 2)), up_jam(RowMap(1, 2, 2)), needed(RowMap(0, 0, 1, 2)),
             check_jam(RowMap(1, 2, 2), ("up", 0, 1))),
            ((2, 0), ("up", 0, 2), (0, 3), 1))

    def test_words(self):
        f = RowMap(0, 0, 3, 3)
        some = Filler("du")(f)
        self.assertEqual(
            (fewest_word(f), word_of(some), made(3, some[0], some[1]) == f),
            ("ud", "du", True))
