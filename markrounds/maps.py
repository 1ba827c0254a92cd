"""Maps of a row that keep the order of its places."""

from markrounds.checks import check_same_row, held_within, is_integer, is_within
from markrounds.errors import InvalidMap, InvalidNumber, InvalidPlace
from markrounds.rulers import Ruler, is_last


class RowMap:
    """A map that sends every place of a row to a place. It never changes."""

    def __init__(self, *values):
        if not is_within(len(values), 2, Ruler.MAX_LAST + 1):
            raise InvalidMap(None)
        spot = _wrong_value(values)
        if spot is not None:
            raise InvalidMap(spot)
        self._images = values

    @classmethod
    def of(cls, values):
        """Return the map with the values of a tuple."""
        # A plain tuple only, so that no code of the caller's runs here.
        if type(values) is not tuple:
            raise InvalidMap(None)
        return cls(*values)

    @classmethod
    def identity(cls, last):
        """Return the map that sends every place to itself."""
        _check_last(last)
        values = tuple(range(last + 1))
        return cls(*values)

    @classmethod
    def constant(cls, last, value):
        """Return the map that sends every place to this value."""
        _check_last(last)
        if not is_within(value, 0, last):
            raise InvalidPlace(value)
        values = [value for _ in range(last + 1)]
        return cls(*values)

    @classmethod
    def shift(cls, last, by):
        """Return the map that moves every place by this integer, within the row."""
        _check_last(last)
        if not is_integer(by):
            raise InvalidNumber(by)
        values = [held_within(place + by, 0, last) for place in range(last + 1)]
        return cls(*values)

    @property
    def last(self):
        """The last place of the row."""
        return len(self._images) - 1

    @property
    def images(self):
        """The values of all places."""
        return self._images

    @property
    def classes(self):
        """The triples of least place, greatest place and value of each class."""
        return _classes(self._images)

    @property
    def is_up(self):
        """Whether no place moves down."""
        return all([value >= place for place, value in enumerate(self._images)])

    @property
    def is_down(self):
        """Whether no place moves up."""
        return all([value <= place for place, value in enumerate(self._images)])

    @property
    def is_still(self):
        """Whether the map moves none of its values."""
        return all([self._images[value] == value for value in self._images])

    def beside(self, other):
        """Return the map of the row with the places of this map and then the other's."""
        moved = [len(self) + value for value in other.images]
        values = (*self._images, *moved)
        return RowMap(*values)

    def __call__(self, place):
        return value_at(self._images, place)

    def __getitem__(self, place):
        return value_at(self._images, place)

    # Without this, Python would iterate by [ ] and stop at an InvalidPlace.
    def __iter__(self):
        raise TypeError("a map is not iterated over")

    def __contains__(self, value):
        return is_integer(value) and value in self._images

    def __len__(self):
        return len(self._images)

    def __bool__(self):
        return any([value != place for place, value in enumerate(self._images)])

    def __eq__(self, other):
        return isinstance(other, RowMap) and self._images == other._images

    def __neg__(self):
        values = [self.last - value for value in self._images[::-1]]
        return RowMap(*values)

    def __add__(self, other):
        _check_pair(self, other)
        values = [other._images[value] for value in self._images]
        return RowMap(*values)

    def __and__(self, other):
        _check_pair(self, other)
        values = [x if x <= y else y for x, y in zip(self._images, other._images)]
        return RowMap(*values)

    def __or__(self, other):
        _check_pair(self, other)
        values = [y if x <= y else x for x, y in zip(self._images, other._images)]
        return RowMap(*values)

    def __le__(self, other):
        _check_map(other)
        return _is_below(self, other)

    def __lt__(self, other):
        _check_map(other)
        return _is_below(self, other) and self._images != other._images

    # f >= g means g <= f, also in that the exception names f.
    def __ge__(self, other):
        _check_map(other)
        return _is_below(other, self)

    def __gt__(self, other):
        _check_map(other)
        return _is_below(other, self) and self._images != other._images


def _check_last(last):
    if not is_last(last):
        raise InvalidMap(None)


def _wrong_value(values):
    """Return the position of the first value that makes no map, or None."""
    before = 0
    for spot, value in enumerate(values):
        if not is_within(value, before, len(values) - 1):
            return spot
        before = value
    return None


def value_at(images, place):
    """Return the value of a place; raise InvalidPlace for any other value."""
    if not is_within(place, 0, len(images) - 1):
        raise InvalidPlace(place)
    return images[place]


def _classes(images):
    triples = []
    least = 0
    for place in range(len(images)):
        if place == len(images) - 1 or images[place] != images[place + 1]:
            triples.append((least, place, images[place]))
            least = place + 1
    return tuple(triples)


def _check_map(value):
    # Raised here, not left to Python: the value could answer for itself then.
    if not isinstance(value, RowMap):
        raise TypeError("the operator is described for two maps only")


def _check_pair(one, other):
    _check_map(other)
    check_same_row(one, other)


def _is_below(low, high):
    check_same_row(low, high)
    return all([x <= y for x, y in zip(low.images, high.images)])
