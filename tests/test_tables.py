"""The module tables: tables of maps and of roundings."""

from markrounds import tables
from markrounds.errors import InvalidNumber, OtherRow
from markrounds.maps import RowMap
from markrounds.roundings import DownRounding, UpRounding, made
from markrounds.rulers import Ruler
from markrounds.tables import map_table, steps_table
from values import QuickCase, all_row_maps, drawn_roundings, some_row_maps, wrong_integers

UP, DOWN = UpRounding(Ruler(3, 0, 1, 3)), DownRounding(Ruler(3, 0, 3))


def columns(values):
    return "".join(str(value).rjust(3) for value in values)


class MapTableTest(QuickCase):

    def test_the_functions_are_defined_in_the_module(self):
        self.assertEqual((tables.map_table.__module__, tables.steps_table.__module__), ("markrounds.tables",) * 2)

    def test_every_last_place(self):
        for last in range(1, 21):
            for f in some_row_maps(last, 5, last):
                wanted = columns(range(last + 1)) + "\n" + columns(f.images)
                self.assertEqual(map_table(f), wanted)
                self.assertEqual(map_table(f=f), wanted)

    def test_all_maps_of_a_small_row(self):
        for f in all_row_maps(3):
            places, values = map_table(f).split("\n")
            self.assertEqual(places, "  0  1  2  3")
            self.assertEqual(values, "  {}  {}  {}  {}".format(*f.images))

    def test_two_digits(self):
        self.assertEqual(map_table(RowMap.constant(10, 10)), columns(range(11)) + "\n" + " 10" * 11)
        self.assertTrue(map_table(RowMap.identity(11)).startswith("  0  1  2  3  4  5  6  7  8  9 10 11\n  0  1"))


class StepsTableTest(QuickCase):

    def check_table(self, last, roundings):
        lines = ["  " + columns(range(last + 1))]
        for spot, rounding in enumerate(roundings):
            lines.append(rounding.LETTER + " " + columns(made(last, *roundings[:spot + 1]).images))
        for form in (list, tuple):
            self.assertEqual(steps_table(last, form(roundings)), "\n".join(lines))

    def test_every_last_place(self):
        for last in range(1, 21):
            for many in (0, 1, 2, 7):
                self.check_table(last, drawn_roundings(last, many, many))

    def test_400_roundings(self):
        for last in (3, 20):
            self.check_table(last, drawn_roundings(last, 400, 1))

    def test_no_roundings(self):
        self.assertEqual(steps_table(3, []), "    0  1  2  3")
        self.assertEqual(steps_table(roundings=(), last=1), "    0  1")

    def test_some_roundings(self):
        self.assertEqual(steps_table(3, [DOWN, UP]), "    0  1  2  3\nd   0  0  0  3\nu   0  0  0  3")
        top = UpRounding(Ruler(10, 10))
        self.assertEqual(steps_table(10, (top,)), "  " + columns(range(11)) + "\nu " + " 10" * 11)

    def test_errors_as_made(self):
        other, third = UpRounding(Ruler(4, 4)), DownRounding(Ruler(2, 0))
        for last in wrong_integers(1, 20):
            for roundings in ([], [UP], (UP, other)):
                self.assertTrue(self.caught(InvalidNumber, steps_table, last, roundings).value is last)
        for roundings, wrong in (([other], other), ((UP, other, third), other), ([third, UP, other], third)):
            self.assertIs(self.caught(OtherRow, steps_table, 3, roundings).value, wrong)
        self.assertIs(self.caught(OtherRow, steps_table, 4, [UP, DOWN]).value, UP)

    def test_nothing_is_changed(self):
        roundings, given = [UP, DOWN], [3, [3]]
        steps_table(3, roundings)
        self.caught(InvalidNumber, steps_table, given, roundings)
        self.assertTrue(len(roundings) == 2 and roundings[0] is UP and roundings[1] is DOWN)
        self.assertEqual((given, UP.ruler.marks), ([3, [3]], (0, 1, 3)))
