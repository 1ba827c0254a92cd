"""Live rows, on which roundings are done and undone."""

from markrounds.bridges import check_not_lost, needed_between
from markrounds.errors import InvalidNumber, LimitExceeded, NothingToUndo
from markrounds.maps import value_at, with_images
from markrounds.roundings import check_roundings, word_of
from markrounds.rulers import is_last


class LiveRow:
    """A row that begins with the identity, and the roundings done on it."""

    MAX_STEPS = 100

    def __init__(self, last):
        if not is_last(last):
            raise InvalidNumber(last)
        self._log = []
        # Where the places stand before the first rounding and after each.
        self._rows = [tuple(range(last + 1))]

    @property
    def state(self):
        """The map that the roundings make."""
        return with_images(self._rows[-1])

    @property
    def log(self):
        """The roundings that have not been undone."""
        return tuple(self._log)

    @property
    def letters(self):
        """The letters of these roundings."""
        return word_of(self._log)

    def __call__(self, place):
        return value_at(self._rows[-1], place)

    def __len__(self):
        return len(self._log)

    def __eq__(self, other):
        return type(self) is type(other) and _is_same_way(self, other)

    def do(self, *roundings):
        """Do all roundings, or none if there is an error."""
        rows = _rows_from(self._rows[-1], roundings)
        _go_on(self, roundings, rows)

    def would(self, *roundings):
        """Return the map that the row would have after these roundings."""
        rows = _rows_from(self._rows[-1], roundings)
        return with_images(rows[-1])

    def undo(self):
        """Undo the latest rounding."""
        _go_back(self)

    def states(self):
        """Yield the maps after 0, 1, 2, ... of the roundings."""
        for places in list(self._rows):
            yield with_images(places)

    def copy(self):
        """Return an equal live row, which goes its own way from now on."""
        return _with_way_of(self, LiveRow(len(self._rows[0]) - 1))


# Each class of the interface has all its methods in its own body, so the goal
# row repeats those that are alike; only states, which yields, may not be
# defined twice.
class GoalRow(LiveRow):
    """A live row that refuses roundings after which its goal is lost."""

    def __init__(self, goal):
        super().__init__(goal.last)
        self._goal = goal

    @property
    def state(self):
        """The map that the roundings make."""
        return with_images(self._rows[-1])

    @property
    def log(self):
        """The roundings that have not been undone."""
        return tuple(self._log)

    @property
    def letters(self):
        """The letters of these roundings."""
        return word_of(self._log)

    @property
    def goal(self):
        """The map that the row is to have in the end."""
        return self._goal

    @property
    def left(self):
        """The fewest numbers of up-roundings and down-roundings that lead to the goal."""
        return needed_between(self.state, self._goal)

    def __call__(self, place):
        return value_at(self._rows[-1], place)

    def __len__(self):
        return len(self._log)

    def __eq__(self, other):
        return type(self) is type(other) and _is_same_way(self, other) and self._goal == other._goal

    def do(self, *roundings):
        """Do all roundings, or none if there is an error."""
        rows = _rows_from(self._rows[-1], roundings)
        # A goal that is lost stays lost, so the last row tells for all.
        check_not_lost(with_images(rows[-1]), self._goal)
        _go_on(self, roundings, rows)

    def would(self, *roundings):
        """Return the map that the row would have after these roundings."""
        rows = _rows_from(self._rows[-1], roundings)
        return with_images(rows[-1])

    def undo(self):
        """Undo the latest rounding."""
        _go_back(self)

    def copy(self):
        """Return an equal goal row, which goes its own way from now on."""
        return _with_way_of(self, GoalRow(self._goal))


def _rows_from(places, roundings):
    """Return these places, and where they stand after each of the roundings."""
    check_roundings(len(places) - 1, roundings)
    rows = [places]
    for rounding in roundings:
        images = rounding.as_map().images
        rows.append(tuple([images[place] for place in rows[-1]]))
    return rows


def _go_on(row, roundings, rows):
    """Take over the roundings; the first of the rows is the one before them."""
    if len(row) + len(roundings) > LiveRow.MAX_STEPS:
        raise LimitExceeded(LiveRow.MAX_STEPS)
    row._log.extend(roundings)
    row._rows.extend(rows[1:])


def _go_back(row):
    if len(row) == 0:
        raise NothingToUndo()
    row._log.pop()
    row._rows.pop()


def _is_same_way(one, other):
    return one._rows[0] == other._rows[0] and one._log == other._log


def _with_way_of(row, other):
    """Give the other row, a new one, the roundings of this row."""
    other._log = list(row._log)
    other._rows = list(row._rows)
    return other
