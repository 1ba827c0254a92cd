"""The whole program: its modules agree with each other and with a search."""

import itertools
import random

from markrounds.bridges import bridge, needed_between, shortened, single_rounding
from markrounds.console import Console
from markrounds.errors import Lost
from markrounds.fillings import count_fillings, fillings
from markrounds.jams import needed
from markrounds.listing import all_maps, count_maps, map_by_rank, needs_table, rank_of_map
from markrounds.live import GoalRow, LiveRow
from markrounds.maps import RowMap
from markrounds.roundings import DownRounding, UpRounding, made, word_of
from markrounds.rulers import Ruler
from markrounds.tables import map_table, steps_table
from markrounds.texts import read_roundings, roundings_text
from markrounds.words import Filler, fewest_word
from values import QuickCase, all_down_roundings, all_row_maps, all_up_roundings, drawn_roundings, some_row_maps


def some_ways():
    """Last places, each with some roundings of the row."""
    for last in (1, 2, 3, 5, 12, 20):
        for many in (0, 1, 2, 5, 17, 60):
            yield last, drawn_roundings(last, many, last + many)
    for last in (1, 2):
        roundings = all_up_roundings(last) + all_down_roundings(last)
        for pair in itertools.product(roundings, repeat=2):
            yield last, list(pair)


def lines_of(table):
    """The numbers of each line of a table, without letters."""
    return [tuple(int(word) for word in line.split() if word not in ("u", "d")) for line in table.split("\n")]


class SameRoundingsTest(QuickCase):

    def test_all_modules_agree(self):
        for last, roundings in some_ways():
            f = made(last, *roundings)
            row = LiveRow(last)
            row.do(*roundings)
            self.assertTrue(row.state == f)
            states = [state.images for state in row.states()]
            self.assertEqual(lines_of(steps_table(last, roundings))[1:], states[1:])
            self.assertEqual(lines_of(map_table(f)), [tuple(range(last + 1)), f.images])
            self.assertEqual(steps_table(last, roundings).split("\n")[0], "  " + map_table(f).split("\n")[0])
            again = read_roundings(roundings_text(last, roundings))
            self.assertTrue(again == (last, tuple(roundings)))
            self.assertEqual(row.letters, word_of(roundings))
            sums = RowMap.identity(last)
            for rounding in roundings:
                sums = sums + rounding.as_map()
            self.assertTrue(sums == f)
            self.assertTrue(map_by_rank(last, rank_of_map(f)) == f)

    def test_consoles_agree(self):
        for last, roundings in some_ways():
            console = Console()
            console.run(f"new {last}")
            for line in roundings_text(last, roundings).split("\n")[1:]:
                command = line.replace("u", "up", 1).replace("d", "down", 1)
                self.assertEqual(console.run(command), "ok")
            f = made(last, *roundings)
            self.assertEqual(console.run("word"), word_of(roundings) if roundings else "none")
            self.assertEqual(console.run("rank"), str(rank_of_map(f)))
            self.assertEqual(console.run("needs"), "{} {}".format(*needed(f)))
            self.assertEqual([console.run(f"at {place}") for place in range(last + 1)], [str(x) for x in f.images])

    def test_what_roundings_make_needs_no_more_than_there_are(self):
        for last, roundings in some_ways():
            f = made(last, *roundings)
            many_up, many_down = needed(f)
            letters = word_of(roundings)
            self.assertTrue(many_up <= letters.count("u") and many_down <= letters.count("d"))
            found = Filler(letters)(f)
            self.assertTrue(made(last, *found) == f)
            short = shortened(last, *roundings)
            self.assertEqual(word_of(short), fewest_word(f))
            self.assertLessEqual(len(short), len(roundings))
            if last <= 4 and len(roundings) <= 4:
                self.assertGreater(count_fillings(f, letters), 0)
                self.assertTrue(tuple(roundings) in list(fillings(f, letters)))

    def test_every_beginning_leads_on_to_the_end(self):
        for last, roundings in some_ways():
            f = made(last, *roundings)
            row = GoalRow(f)
            for spot in range(len(roundings) + 1):
                begun, rest = roundings[:spot], word_of(roundings[spot:])
                state = made(last, *begun)
                self.assertTrue(row.state == state)
                self.assertEqual(row.left, needed_between(state, f))
                self.assertTrue(row.left[0] <= rest.count("u") and row.left[1] <= rest.count("d"))
                self.assertTrue(made(last, *begun, *bridge(state, f, rest)) == f)
                if spot < len(roundings):
                    row.do(roundings[spot])
            self.assertEqual(row.left, (0, 0))


class MirroredTest(QuickCase):

    def test_roundings(self):
        for last, roundings in some_ways():
            mirrored = [-rounding for rounding in roundings]
            f, g = made(last, *roundings), made(last, *mirrored)
            self.assertTrue(-f == g)
            self.assertEqual(needed(g), needed(f)[::-1])
            swapped = {"u": "d", "d": "u"}
            self.assertEqual(word_of(mirrored), "".join(swapped[letter] for letter in word_of(roundings)))
            one, other = LiveRow(last), LiveRow(last)
            one.do(*roundings)
            other.do(*mirrored)
            self.assertTrue(all(-f == g for f, g in zip(one.states(), other.states())))

    def test_bridges(self):
        for f, g in itertools.product(all_row_maps(3), repeat=2):
            try:
                pair = needed_between(f, g)
            except Lost:
                self.caught(Lost, needed_between, -f, -g)
                continue
            self.assertEqual(needed_between(-f, -g), pair[::-1])
            steps = bridge(f, g, "u" * pair[0] + "d" * pair[1])
            self.assertTrue(-f + made(3, *[-rounding for rounding in steps]) == -g)

    def test_numbers(self):
        for last in (1, 2, 3, 4):
            for f in all_maps(last):
                self.assertTrue(f == -(-f))
            self.assertEqual({rank_of_map(-f) for f in all_maps(last)}, set(range(count_maps(last))))

    def test_single_roundings(self):
        for last in (1, 2, 3, 4):
            for f in all_maps(last):
                one, other = single_rounding(f), single_rounding(-f)
                self.assertEqual(one is None, other is None)
                if one is not None and f:
                    self.assertTrue(-one == other)

    def test_fillings(self):
        for f in all_maps(3):
            for letters, swapped in (("u", "d"), ("ud", "du"), ("uud", "ddu")):
                rows = {tuple(rounding.ruler.marks for rounding in row) for row in fillings(f, letters)}
                mirrored = {tuple((-rounding).ruler.marks for rounding in row) for row in fillings(-f, swapped)}
                self.assertEqual(rows, mirrored)


class BesideTest(QuickCase):

    def test_maps_beside_each_other_need_the_greater_numbers(self):
        pairs = list(itertools.product(all_row_maps(2), repeat=2))
        pairs += list(itertools.product(some_row_maps(9, 8, 1)[:10], some_row_maps(10, 8, 2)[:10]))
        for f, g in pairs:
            first, second = needed(f), needed(g)
            both = f.beside(g)
            wanted = (max(first[0], second[0]), max(first[1], second[1]))
            self.assertEqual(needed(both), wanted)
            self.assertEqual(GoalRow(both).left, wanted)
            self.assertEqual(len(fewest_word(both)), sum(wanted))

    def test_roundings_beside_each_other(self):
        draw = random.Random(2)
        for _ in range(50):
            letters = "".join(draw.choices("ud", k=draw.randint(1, 6)))
            rows = []
            for letter in letters:
                pair = []
                for last in (7, 9):
                    marks = draw.sample(range(last + 1), 5)
                    pair.append(UpRounding(Ruler(last, last, *marks)) if letter == "u"
                                else DownRounding(Ruler(last, 0, *marks)))
                rows.append(pair)
            f, g = made(7, *[one for one, _ in rows]), made(9, *[other for _, other in rows])
            both = LiveRow(17)
            for one, other in rows:
                kind = UpRounding if one.LETTER == "u" else DownRounding
                both.do(kind(Ruler(17, *one.ruler.marks, *[8 + mark for mark in other.ruler.marks])))
            self.assertTrue(both.state == f.beside(g))


class SearchTest(QuickCase):

    def searched(self, last):
        """The pairs of numbers of roundings by which each map is made."""
        steps = {"u": [rounding.as_map().images for rounding in all_up_roundings(last)],
                 "d": [rounding.as_map().images for rounding in all_down_roundings(last)]}
        start = tuple(range(last + 1))
        made_by = {(0, 0): {start}}
        for many_up, many_down in itertools.product(range(last + 1), repeat=2):
            found = made_by.setdefault((many_up, many_down), set())
            for before, letter in (((many_up - 1, many_down), "u"), ((many_up, many_down - 1), "d")):
                for images in made_by.get(before, ()):
                    found.update(tuple(step[value] for value in images) for step in steps[letter])
        return made_by

    def test_small_rows(self):
        for last in (1, 2, 3, 4):
            made_by = self.searched(last)
            fewest = {}
            for f in all_maps(last):
                pairs = [pair for pair in sorted(made_by) if f.images in made_by[pair]]
                least = (min(pair[0] for pair in pairs), min(pair[1] for pair in pairs))
                self.assertEqual(needed(f), least)
                self.assertIn(least, pairs)
                self.assertEqual(GoalRow(f).left, least)
                fewest[least] = fewest.get(least, 0) + 1
            table = needs_table(last)
            self.assertEqual({(up, down): table[up][down] for up in range(last + 1) for down in range(last + 1)
                              if table[up][down]}, fewest)
