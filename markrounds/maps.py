"""Maps of a row that keep the order of its places."""

from markrounds.checks import GREATEST_LAST, check_same_row, held_within, is_integer, is_within
from markrounds.errors import InvalidMap, InvalidNumber, InvalidPlace
from markrounds.rulers import is_last


class RowMap:
    """A map that sends every place of a row to a place. It never changes."""

    def __init__(self, *values):
        many = len(values)
        if many < 2 or many > GREATEST_LAST + 1:
            raise InvalidMap(None)
        before = 0
        for value in values:
            # As is_within, but without a call for each value.
            if type(value) is not int or value < before or value >= many:
                raise InvalidMap(_wrong_value(values))
            before = value
        self._images = values

    @classmethod
    def of(cls, values):
        """Return the map with the values of a tuple."""
        # A plain tuple only, so that no code of the caller's runs here.
        if type(values) is not tuple:
            raise InvalidMap(None)
        return cls(*values)

    @classmethod
    def identity(cls, last):
        """Return the map that sends every place to itself."""
        _check_last(last)
        values = tuple(range(last + 1))
        return cls(*values)

    @classmethod
    def constant(cls, last, value):
        """Return the map that sends every place to this value."""
        _check_last(last)
        if not is_within(value, 0, last):
            raise InvalidPlace(value)
        values = [value for _ in range(last + 1)]
        return cls(*values)

    @classmethod
    def shift(cls, last, by):
        """Return the map that moves every place by this integer, within the row."""
        _check_last(last)
        if not is_integer(by):
            raise InvalidNumber(by)
        values = [held_within(place + by, 0, last) for place in range(last + 1)]
        return cls(*values)

    @property
    def last(self):
        """The last place of the row."""
        return len(self._images) - 1

    @property
    def images(self):
        """The values of all places."""
        return self._images

    @property
    def classes(self):
        """The triples of least place, greatest place and value of each class."""
        return _classes(self._images)

    @property
    def is_up(self):
        """Whether no place moves down."""
        return all([value >= place for place, value in enumerate(self._images)])

    @property
    def is_down(self):
        """Whether no place moves up."""
        return all([value <= place for place, value in enumerate(self._images)])

    @property
    def is_still(self):
        """Whether the map moves none of its values."""
        return all([self._images[value] == value for value in self._images])

    def beside(self, other):
        """Return the map of the row with the places of this map and then the other's."""
        moved = [len(self) + value for value in other.images]
        values = (*self._images, *moved)
        return RowMap(*values)

    # As value_at, but without a call: all places of many maps are asked.
    def __call__(self, place):
        if type(place) is int and 0 <= place < len(self._images):
            return self._images[place]
        raise InvalidPlace(place)

    def __getitem__(self, place):
        return value_at(self._images, place)

    # Without this, Python would iterate by [ ] and stop at an InvalidPlace.
    def __iter__(self):
        raise TypeError("a map is not iterated over")

    def __contains__(self, value):
        return is_integer(value) and value in self._images

    def __len__(self):
        return len(self._images)

    def __bool__(self):
        return any([value != place for place, value in enumerate(self._images)])

    def __eq__(self, other):
        return isinstance(other, RowMap) and self._images == other._images

    def __neg__(self):
        last = self.last
        return with_images(tuple([last - value for value in self._images[::-1]]))

    def __add__(self, other):
        _check_pair(self, other)
        images = other._images
        return with_images(tuple([images[value] for value in self._images]))

    def __and__(self, other):
        _check_pair(self, other)
        return with_images(tuple([x if x <= y else y for x, y in zip(self._images, other._images)]))

    def __or__(self, other):
        _check_pair(self, other)
        return with_images(tuple([y if x <= y else x for x, y in zip(self._images, other._images)]))

    def __le__(self, other):
        _check_map(other)
        return _is_below(self, other)

    def __lt__(self, other):
        _check_map(other)
        return _is_below(self, other) and self._images != other._images

    # f >= g means g <= f, also in that the exception names f.
    def __ge__(self, other):
        _check_map(other)
        return _is_below(other, self)

    def __gt__(self, other):
        _check_map(other)
        return _is_below(other, self) and self._images != other._images


def _check_last(last):
    if not is_last(last):
        raise InvalidMap(None)


def _wrong_value(values):
    """Return the position of the first value that makes no map."""
    before = 0
    spot = 0
    while is_within(values[spot], before, len(values) - 1):
        before = values[spot]
        spot += 1
    return spot


def with_images(images):
    """Return the map with this tuple of values, without a check of each."""
    f = RowMap(0, 0)
    f._images = images
    return f


def value_at(images, place):
    """Return the value of a place; raise InvalidPlace for any other value."""
    # As is_within, but without a call.
    if type(place) is int and 0 <= place < len(images):
        return images[place]
    raise InvalidPlace(place)


def _classes(images):
    triples = []
    least = 0
    for place in range(len(images)):
        if place == len(images) - 1 or images[place] != images[place + 1]:
            triples.append((least, place, images[place]))
            least = place + 1
    return tuple(triples)


def _check_map(value):
    # Raised here, not left to Python: the value could answer for itself then.
    if not isinstance(value, RowMap):
        raise TypeError("the operator is described for two maps only")


def _check_pair(one, other):
    _check_map(other)
    check_same_row(one, other)


def _is_below(low, high):
    check_same_row(low, high)
    return all([x <= y for x, y in zip(low.images, high.images)])
