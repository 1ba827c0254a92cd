"""The module live: live rows and goal rows."""

import inspect
import itertools
import operator
import random

from markrounds.bridges import bridge, needed_between
from markrounds.errors import InvalidNumber, InvalidPlace, LimitExceeded, Lost, NothingToUndo, OtherRow
from markrounds.jams import needed
from markrounds.live import GoalRow, LiveRow
from markrounds.maps import RowMap
from markrounds.roundings import DownRounding, UpRounding, made
from markrounds.rulers import Ruler
from values import (
    QuickCase, all_down_roundings, all_row_maps, all_up_roundings, drawn_roundings, foreign_values, some_row_maps,
    wrong_integers,
)

UP, DOWN = UpRounding(Ruler(3, 0, 1, 3)), DownRounding(Ruler(3, 0, 3))
STILL = UpRounding(Ruler.full(3))
METHODS = ("__init__", "state", "log", "letters", "__call__", "__len__", "__eq__", "do", "would", "undo", "copy")


def new_rows(last):
    """An empty live row and two empty goal rows."""
    return [LiveRow(last), GoalRow(RowMap.constant(last, 0)), GoalRow(RowMap.constant(last, last // 2))]


def images_of(maps):
    return [f.images for f in maps]


class LiveCase(QuickCase):

    def check_row(self, row, last, roundings):
        """The row is as it should be after these roundings."""
        state = made(last, *roundings)
        self.assertIs(type(row.state), RowMap)
        self.assertTrue(row.state == state)
        self.assertIs(type(row.log), tuple)
        self.assertTrue(row.log == tuple(roundings))
        self.assertTrue(all(one is other for one, other in zip(row.log, roundings)))
        self.assertEqual(row.letters, "".join(rounding.LETTER for rounding in roundings))
        self.assertEqual(len(row), len(roundings))
        self.assertEqual([row(place) for place in range(last + 1)], list(state.images))
        wanted = images_of(made(last, *roundings[:many]) for many in range(len(roundings) + 1))
        self.assertEqual(images_of(row.states()), wanted)


class ClassesTest(QuickCase):

    def test_the_classes(self):
        self.assertEqual((LiveRow.__bases__, GoalRow.__bases__), ((object,), (LiveRow,)))
        self.assertEqual((LiveRow.MAX_STEPS, GoalRow.MAX_STEPS, LiveRow(3).MAX_STEPS), (100, 100, 100))
        for kind in (LiveRow, GoalRow):
            self.assertEqual(kind.__module__, "markrounds.live")
            for name in METHODS:
                self.assertIn(name, vars(kind))
            for name in ("state", "log", "letters"):
                self.assertIsInstance(inspect.getattr_static(kind, name), property)
        self.assertIn("states", vars(LiveRow))
        for name in ("goal", "left"):
            self.assertIsInstance(inspect.getattr_static(GoalRow, name), property)
            self.assertFalse(hasattr(LiveRow, name))

    def test_properties_cannot_be_assigned(self):
        for row, names in ((LiveRow(3), ("state", "log", "letters")), (GoalRow(RowMap(0, 1)), ("goal", "left"))):
            for name in names:
                self.caught(AttributeError, setattr, row, name, None)

    def test_wrong_last_places(self):
        for last in wrong_integers(1, 20):
            self.assertTrue(self.caught(InvalidNumber, LiveRow, last).value is last)


class DoTest(LiveCase):

    def test_new_rows(self):
        for last in range(1, 21):
            for row in new_rows(last) + [LiveRow(last=last), GoalRow(goal=RowMap.identity(last))]:
                self.check_row(row, last, [])

    def test_none_one_and_several_roundings(self):
        for row in new_rows(3):
            self.assertIsNone(row.do())
            self.check_row(row, 3, [])
            self.assertIsNone(row.do(STILL))
            self.check_row(row, 3, [STILL])
            self.assertIsNone(row.do(STILL, STILL, STILL))
            self.check_row(row, 3, [STILL] * 4)
        row = LiveRow(3)
        row.do(UP)
        row.do(DOWN, UP)
        self.check_row(row, 3, [UP, DOWN, UP])

    def test_all_pairs_of_roundings_of_a_small_row(self):
        for one, other in itertools.product(all_up_roundings(2) + all_down_roundings(2), repeat=2):
            row = LiveRow(2)
            row.do(one)
            row.do(other)
            self.check_row(row, 2, [one, other])

    def test_long_rows_with_more_than_60_roundings(self):
        for last in (5, 20):
            roundings = drawn_roundings(last, 100, last)
            row = LiveRow(last)
            for spot, rounding in enumerate(roundings):
                row.do(rounding)
                if spot in (0, 9, 60, 99):
                    self.check_row(row, last, roundings[:spot + 1])
            row = LiveRow(last)
            row.do(*roundings)
            self.check_row(row, last, roundings)
            self.assertEqual(len(row.letters), 100)

    def test_roundings_of_another_row(self):
        others = (UpRounding(Ruler(4, 4)), DownRounding(Ruler(2, 0)), UpRounding(Ruler(20, 20)))
        for row in new_rows(3):
            row.do(STILL)
            for call in (row.do, row.would):
                for first, second in itertools.combinations(range(4), 2):
                    for other, later in itertools.permutations(others, 2):
                        roundings = [STILL, DOWN, STILL, DOWN]
                        roundings[first], roundings[second] = other, later
                        self.assertIs(self.caught(OtherRow, call, *roundings).value, other)
            self.check_row(row, 3, [STILL])

    def test_would(self):
        for row in new_rows(3):
            row.do(STILL)
            for roundings in ((), (UP,), (UP, DOWN), (DOWN, UP), (UP, DOWN) * 200):
                found = row.would(*roundings)
                self.assertIs(type(found), RowMap)
                self.assertTrue(found == made(3, *roundings))
                self.check_row(row, 3, [STILL])
        row = LiveRow(3)
        row.do(UP)
        self.assertTrue(row.would(DOWN) == made(3, UP, DOWN))

    def test_would_is_not_limited(self):
        row = LiveRow(3)
        row.do(*[STILL] * 100)
        self.assertTrue(row.would(UP, DOWN) == made(3, UP, DOWN))
        self.check_row(row, 3, [STILL] * 100)
        # Nor does a goal that would be lost matter.
        row = GoalRow(RowMap.identity(3))
        self.assertTrue(row.would(UP, DOWN) == made(3, UP, DOWN))
        self.check_row(row, 3, [])

    def test_wrong_places(self):
        for last in (1, 4, 20):
            for row in new_rows(last):
                for place in wrong_integers(0, last):
                    self.assertTrue(self.caught(InvalidPlace, row, place).value is place)
                self.check_row(row, last, [])
        self.assertEqual(LiveRow(3)(place=2), 2)


class UndoTest(LiveCase):

    def test_down_to_nothing(self):
        for last in (3, 20):
            roundings = drawn_roundings(last, 30, 4)
            row = LiveRow(last)
            row.do(*roundings)
            for many in range(29, -1, -1):
                self.assertIsNone(row.undo())
                self.check_row(row, last, roundings[:many])
            for _ in range(3):
                self.caught(NothingToUndo, row.undo)
                self.check_row(row, last, [])

    def test_new_rows(self):
        for row in new_rows(4):
            self.caught(NothingToUndo, row.undo)
            self.check_row(row, 4, [])

    def test_roundings_after_undo(self):
        for row in new_rows(3):
            row.do(STILL, STILL)
            row.undo()
            row.do(DOWN if type(row) is LiveRow else STILL)
            self.check_row(row, 3, [STILL, DOWN] if type(row) is LiveRow else [STILL, STILL])

    def test_states_of_two_readers(self):
        row = LiveRow(3)
        row.do(UP, DOWN)
        wanted = [(0, 1, 2, 3), (0, 1, 3, 3), (0, 0, 3, 3)]
        pairs = [(f.images, g.images) for f in row.states() for g in row.states()]
        self.assertEqual(pairs, list(itertools.product(wanted, repeat=2)))
        one, other = iter(row.states()), iter(row.states())
        for images in wanted:
            self.assertEqual((next(one).images, next(other).images), (images, images))
        self.assertEqual((list(one), list(other)), ([], []))
        self.assertEqual(next(iter(row.states())).images, wanted[0])


class LimitTest(LiveCase):

    def test_one_rounding_at_a_time(self):
        for row in new_rows(3):
            for many in range(100):
                self.assertEqual(len(row), many)
                row.do(STILL)
            for roundings in ((STILL,), (STILL, STILL), (STILL,) * 500):
                self.assertEqual(self.caught(LimitExceeded, row.do, *roundings).limit, 100)
                self.check_row(row, 3, [STILL] * 100)
            row.do()

    def test_several_that_would_go_beyond(self):
        for row in new_rows(3):
            row.do(*[STILL] * 98)
            self.assertEqual(self.caught(LimitExceeded, row.do, STILL, STILL, STILL).limit, 100)
            self.check_row(row, 3, [STILL] * 98)
            row.do(STILL, STILL)
            self.check_row(row, 3, [STILL] * 100)
            self.assertEqual(self.caught(LimitExceeded, new_rows(3)[0].do, *[STILL] * 101).limit, 100)

    def test_room_after_undo_and_in_copies(self):
        for row in new_rows(3):
            row.do(*[STILL] * 100)
            other = row.copy()
            self.assertEqual(self.caught(LimitExceeded, other.do, STILL).limit, 100)
            row.undo()
            row.do(STILL)
            self.caught(LimitExceeded, row.do, STILL)
            other.undo()
            self.caught(LimitExceeded, other.do, STILL, STILL)
            self.assertEqual((len(row), len(other)), (100, 99))

    def test_the_order_of_the_exceptions(self):
        other = UpRounding(Ruler(4, 4))
        row = GoalRow(RowMap(0, 0, 3, 3))
        row.do(*[STILL] * 100)
        top = UpRounding(Ruler(3, 3))
        self.assertIs(self.caught(OtherRow, row.do, top, other).value, other)
        self.assertEqual(self.caught(Lost, row.do, top).pair, (1, 2))
        self.assertEqual(self.caught(LimitExceeded, row.do, UP).limit, 100)
        self.check_row(row, 3, [STILL] * 100)


class CopyTest(LiveCase):

    def test_both_ways(self):
        for row in new_rows(3):
            row.do(STILL)
            other = row.copy()
            self.assertIs(type(other), type(row))
            self.assertTrue(other == row and other is not row)
            other.do(STILL)
            self.check_row(row, 3, [STILL])
            self.check_row(other, 3, [STILL, STILL])
            self.assertFalse(other == row)
            row.undo()
            self.check_row(row, 3, [])
            self.check_row(other, 3, [STILL, STILL])
            other.undo()
            other.undo()
            self.assertTrue(other == row)

    def test_goals_of_copies(self):
        goal = RowMap(0, 0, 3, 3)
        row = GoalRow(goal)
        row.do(UP)
        other = row.copy()
        self.assertTrue(other.goal == goal)
        self.assertEqual((other.left, other.letters), ((0, 1), "u"))
        self.caught(Lost, other.do, UpRounding(Ruler(3, 3)))

    def test_a_copy_of_a_copy_of_a_new_row(self):
        for last in range(1, 21):
            for row in new_rows(last):
                other = row.copy().copy()
                self.assertTrue(other == row and type(other) is type(row))
                self.check_row(other, last, [])


class EqualityTest(LiveCase):

    def test_rows_of_every_kind(self):
        rows = []
        for last in (3, 4):
            still, down = UpRounding(Ruler.full(last)), DownRounding(Ruler.full(last))
            for goal in (None, RowMap.constant(last, 0), RowMap.constant(last, 1)):
                for roundings in ((), (still,), (down,), (still, down), (down, still)):
                    row = LiveRow(last) if goal is None else GoalRow(goal)
                    row.do(*roundings)
                    rows.append(((last, None if goal is None else goal.images, len(roundings), row.letters), row))
        for (key, row), (other_key, other) in itertools.product(rows, repeat=2):
            self.assertIs(row == other, key == other_key)
            self.assertIs(row != other, key != other_key)

    def test_rows_with_equal_roundings(self):
        for one, other in zip(new_rows(3), new_rows(3)):
            one.do(UpRounding(Ruler(3, *range(4))))
            other.do(UpRounding(Ruler.full(3)))
            self.assertTrue(one == other)

    def test_rulers_and_maps(self):
        one, other = LiveRow(2), LiveRow(2)
        one.do(UpRounding(Ruler(2, 2)), DownRounding(Ruler(2, 0, 1)))
        other.do(UpRounding(Ruler(2, 2)), DownRounding(Ruler(2, 0, 2)))
        # The same letters, but other rulers; and the same map made otherwise.
        self.assertFalse(one == other)
        third = LiveRow(2)
        third.do(UpRounding(Ruler(2, 2)))
        self.assertTrue(third.state == other.state)
        self.assertFalse(third == other)

    def test_undone_roundings_do_not_count(self):
        for one, other in zip(new_rows(3), new_rows(3)):
            one.do(STILL, STILL)
            one.undo()
            other.do(STILL)
            self.assertTrue(one == other)

    def test_foreign_values(self):
        for row in new_rows(2):
            for value in foreign_values() + [row.state, row.log, [], row.letters]:
                self.assertIs(row == value, False)
                self.assertIs(row != value, True)
            for value in (None, 0, "", (), [], row.state, Ruler(2, 0)):
                self.assertIs(value == row, False)

    def test_operators_that_are_not_described(self):
        for row in new_rows(2):
            for call in (operator.add, operator.sub, operator.and_, operator.or_, operator.lt, operator.le, operator.gt,
                         operator.ge, operator.contains, operator.getitem):
                self.caught(TypeError, call, row, row.copy())
                self.caught(TypeError, call, row, 0)
            for call in (operator.neg, operator.pos, iter, list, hash):
                self.caught(TypeError, call, row)


class GoalTest(LiveCase):

    def test_goal_and_left_after_every_rounding(self):
        for f in [f for last in (1, 2, 3) for f in all_row_maps(last)] + some_row_maps(20, 10, 3):
            many_up, many_down = needed(f)
            row = GoalRow(f)
            self.assertTrue(row.goal == f)
            self.assertEqual(row.left, (many_up, many_down))
            letters = "ud" * max(many_up, many_down)
            for rounding in bridge(row.state, f, letters):
                row.do(rounding)
                self.assertEqual(row.left, needed_between(row.state, f))
            self.assertTrue(row.state == f)
            self.assertEqual((row.left, row.letters), ((0, 0), letters))

    def lost_pair(self, state, goal):
        pairs = [(x, x + 1) for x in range(goal.last) if state(x) == state(x + 1) and goal(x) != goal(x + 1)]
        return pairs[0] if pairs else None

    def test_lost_goals(self):
        for goal in all_row_maps(2) + all_row_maps(3)[::3]:
            roundings = all_up_roundings(goal.last) + all_down_roundings(goal.last)
            for rounding in roundings:
                row = GoalRow(goal)
                pair = self.lost_pair(rounding.as_map(), goal)
                if pair is None:
                    row.do(rounding)
                    self.check_row(row, goal.last, [rounding])
                else:
                    self.assertEqual(self.caught(Lost, row.do, rounding).pair, pair)
                    self.check_row(row, goal.last, [])

    def test_all_or_none_are_done(self):
        goal = RowMap(0, 0, 3, 3)
        for roundings in ((UP, UpRounding(Ruler(3, 3))), (UP, UpRounding(Ruler(3, 3)), STILL),
                          (STILL, DownRounding(Ruler(3, 0)), UP)):
            row = GoalRow(goal)
            row.do(STILL)
            self.assertEqual(self.caught(Lost, row.do, *roundings).pair, (1, 2))
            self.check_row(row, 3, [STILL])
            self.assertEqual(row.left, (1, 1))

    def test_the_pair_is_that_of_the_map_after_all(self):
        row = GoalRow(RowMap.identity(4))
        first, second = UpRounding(Ruler(4, 0, 1, 2, 4)), DownRounding(Ruler(4, 0, 2, 4))
        self.assertEqual(self.caught(Lost, row.do, first).pair, (3, 4))
        self.assertEqual(self.caught(Lost, row.do, first, second).pair, (0, 1))

    def test_drawn_roundings(self):
        draw = random.Random(5)
        for goal in some_row_maps(20, 20, 6):
            row = GoalRow(goal)
            done = []
            for rounding in drawn_roundings(20, 20, draw.random()):
                pair = self.lost_pair(row.would(rounding), goal)
                if pair is None:
                    row.do(rounding)
                    done.append(rounding)
                else:
                    self.assertEqual(self.caught(Lost, row.do, rounding).pair, pair)
            self.check_row(row, 20, done)
            self.assertEqual(row.left, needed_between(made(20, *done), goal))

    def test_nothing_is_changed(self):
        goal = RowMap(0, 0, 3, 3)
        row = GoalRow(goal)
        row.do(UP)
        row.left, row.state, row.log, list(row.states()), row.copy(), row.would(DOWN)
        self.assertEqual((goal.images, UP.ruler.marks, DOWN.ruler.marks), ((0, 0, 3, 3), (0, 1, 3), (0, 3)))
        given = [3, [3]]
        self.caught(InvalidNumber, LiveRow, given)
        self.caught(InvalidPlace, row, given)
        self.assertIs(row == given, False)
        self.assertEqual(given, [3, [3]])
