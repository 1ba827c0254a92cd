"""The examples of the document, as it writes them."""

import unittest

from markrounds.bridges import bridge, needed_between, shortened, single_rounding
from markrounds.console import Console
from markrounds.fillings import count_fillings, fillings
from markrounds.jams import check_jam, needed, up_jam
from markrounds.listing import all_maps, count_maps, map_by_rank, needs_table, rank_of_map
from markrounds.live import GoalRow
from markrounds.maps import RowMap
from markrounds.roundings import DownRounding, UpRounding, made, word_of
from markrounds.rulers import Ruler
from markrounds.tables import map_table, steps_table
from markrounds.texts import roundings_text
from markrounds.words import Filler, fewest_word


class ExamplesTest(unittest.TestCase):

    def test_rulers(self):
        r = Ruler(5, 2, 5, 0)
        self.assertEqual(
            (r.marks, r[1], 3 in r, (-r).marks, (r | Ruler(5, 3)).marks, (r - Ruler(5, 0)).marks, Ruler(5, 2) <= r),
            ((0, 2, 5), 2, False, (0, 3, 5), (0, 2, 3, 5), (2, 5), True))

    def test_maps(self):
        f, g = RowMap(0, 0, 3, 3), RowMap.shift(3, 1)
        self.assertEqual(
            ((f + g).images, (g + f).images, (f & g).images, f.classes, (-g).images, f <= g, f(2), 1 in f, f.is_still),
            ((1, 1, 3, 3), (0, 3, 3, 3), (0, 0, 3, 3), ((0, 1, 0), (2, 3, 3)), (0, 0, 1, 2), True, 3, False, True))

    def test_roundings(self):
        up, down = UpRounding(Ruler(3, 0, 1, 3)), DownRounding(Ruler(3, 0, 3))
        self.assertEqual(
            (up(2), down(2), (up + down).images, made(3, down, up).images, (-up).LETTER, (-up).ruler.marks),
            (3, 0, (0, 0, 3, 3), (0, 0, 0, 3), "d", (0, 2, 3)))

    def test_jams(self):
        self.assertEqual(
            (needed(RowMap(1, 2, 2)), up_jam(RowMap(1, 2, 2)), needed(RowMap(0, 0, 1, 2)),
             check_jam(RowMap(1, 2, 2), ("up", 0, 1))),
            ((2, 0), ("up", 0, 2), (0, 3), 1))

    def test_words(self):
        f = RowMap(0, 0, 3, 3)
        some = Filler("du")(f)
        self.assertEqual(
            (fewest_word(f), word_of(some), made(3, some[0], some[1]) == f),
            ("ud", "du", True))

    def test_listing(self):
        self.assertEqual(
            (count_maps(2), rank_of_map(RowMap(1, 2, 2)), map_by_rank(2, 1).images, [f.images for f in all_maps(1)],
             needs_table(1)),
            (10, 8, (0, 0, 1), [(0, 0), (0, 1), (1, 1)], ((1, 1), (1, 0))))

    def test_fillings(self):
        f = RowMap(0, 0, 3, 3)
        some = list(fillings(f, "ud"))
        self.assertEqual(
            (count_fillings(f, "ud"), [rounding.ruler.marks for rounding in some[0]], count_fillings(f, "u")),
            (4, [(0, 1, 3), (0, 2, 3)], 0))

    def test_bridges(self):
        f, g = RowMap(0, 0, 3, 3), RowMap(1, 1, 3, 3)
        steps = bridge(f, g, "u")
        self.assertEqual(
            (needed_between(f, g), (f + steps[0].as_map()) == g, single_rounding(f),
             single_rounding(RowMap(1, 1, 3, 3)).LETTER, len(shortened(3, steps[0], steps[0]))),
            ((1, 0), True, None, "u", 1))

    def test_live(self):
        row = GoalRow(RowMap(0, 0, 3, 3))
        before = row.left
        row.do(UpRounding(Ruler(3, 0, 1, 3)))
        self.assertEqual(
            (before, row.left, row(2), row.letters, row.would(DownRounding(Ruler(3, 0, 3))).images),
            ((1, 1), (0, 1), 3, "u", (0, 0, 3, 3)))

    def test_tables(self):
        some = (UpRounding(Ruler(3, 0, 1, 3)), DownRounding(Ruler(3, 0, 3)))
        self.assertEqual(
            (map_table(RowMap(0, 0, 3, 3)), steps_table(3, some)),
            ("  0  1  2  3\n  0  0  3  3", "    0  1  2  3\nu   0  1  3  3\nd   0  0  3  3"))

    def test_texts(self):
        self.assertEqual(
            roundings_text(3, (UpRounding(Ruler(3, 1, 3)), DownRounding(Ruler(3, 0)))), "row 3\nu 1 3\nd 0")

    def test_console(self):
        console = Console()
        self.assertEqual(
            (console.run("new 3"), console.run("up 0 1 3"), console.run("down 0 3"), console.run("at 2"),
             console.run("needs")),
            ("ok", "ok", "ok", "3", "1 1"))
