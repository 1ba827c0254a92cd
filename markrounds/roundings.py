"""Roundings: every place of a row moves up, or down, to the next mark."""

from markrounds.errors import InvalidNumber, InvalidPlace, MissingMark, OtherRow
from markrounds.maps import with_images
from markrounds.rulers import is_last


class Rounding:
    """What roundings of both kinds can do. It is never created itself."""

    @property
    def ruler(self):
        """The ruler of the rounding."""
        raise NotImplementedError("a rounding goes up or down")

    def as_map(self):
        """Return the rounding as a map."""
        raise NotImplementedError("a rounding goes up or down")

    def __call__(self, place):
        raise NotImplementedError("a rounding goes up or down")

    def __eq__(self, other):
        raise NotImplementedError("a rounding goes up or down")

    def __neg__(self):
        raise NotImplementedError("a rounding goes up or down")

    def __add__(self, other):
        raise NotImplementedError("a rounding goes up or down")


# Each class of the interface has all its methods in its own body, so the two
# kinds repeat those that are alike; what the methods do stands in functions.
class UpRounding(Rounding):
    """Moves every place to its least mark that is not below it. It never changes."""

    LETTER = "u"

    def __init__(self, ruler):
        marks = ruler.marks
        if marks[-1] != ruler.last:
            raise MissingMark(ruler.last)
        self._ruler = ruler
        self._images = _images_up(marks)

    @property
    def ruler(self):
        """The ruler of the rounding."""
        return self._ruler

    def as_map(self):
        """Return the rounding as a map."""
        return with_images(self._images)

    # As value_at, but without a call: all places of many roundings are asked.
    def __call__(self, place):
        if type(place) is int and 0 <= place < len(self._images):
            return self._images[place]
        raise InvalidPlace(place)

    def __eq__(self, other):
        return type(self) is type(other) and self._ruler == other._ruler

    def __neg__(self):
        return DownRounding(-self._ruler)

    def __add__(self, other):
        return _sum_of(self, other)


class DownRounding(Rounding):
    """Moves every place to its greatest mark that is not above it. It never changes."""

    LETTER = "d"

    def __init__(self, ruler):
        marks = ruler.marks
        if marks[0] != 0:
            raise MissingMark(0)
        self._ruler = ruler
        self._images = _images_down(marks, ruler.last)

    @property
    def ruler(self):
        """The ruler of the rounding."""
        return self._ruler

    def as_map(self):
        """Return the rounding as a map."""
        return with_images(self._images)

    # As value_at, but without a call: all places of many roundings are asked.
    def __call__(self, place):
        if type(place) is int and 0 <= place < len(self._images):
            return self._images[place]
        raise InvalidPlace(place)

    def __eq__(self, other):
        return type(self) is type(other) and self._ruler == other._ruler

    def __neg__(self):
        return UpRounding(-self._ruler)

    def __add__(self, other):
        return _sum_of(self, other)


def made(last, *roundings):
    """Return the map that the roundings make one after the other."""
    check_roundings(last, roundings)
    values = list(range(last + 1))
    for rounding in roundings:
        images = rounding._images
        values = [images[value] for value in values]
    return with_images(tuple(values))


def word_of(roundings):
    """Return the letters of the roundings of a list or tuple."""
    return "".join([rounding.LETTER for rounding in roundings])


def check_roundings(last, roundings):
    """Raise InvalidNumber for a wrong last place, OtherRow for a rounding of another row."""
    if not is_last(last):
        raise InvalidNumber(last)
    for rounding in roundings:
        if rounding.ruler.last != last:
            raise OtherRow(rounding)


def _images_up(marks):
    """Return the next mark from each place up; the last mark is the last place."""
    images = []
    place = 0
    for mark in marks:
        while place <= mark:
            images.append(mark)
            place += 1
    return tuple(images)


def _images_down(marks, last):
    """Return the next mark from each place down; the first mark is 0."""
    images = []
    place, before = 0, 0
    for mark in (*marks, last + 1):
        while place < mark:
            images.append(before)
            place += 1
        before = mark
    return tuple(images)


def _sum_of(first, second):
    # Raised here, not left to Python: the value could answer for itself then.
    if not isinstance(second, Rounding):
        raise TypeError("the operator is described for two roundings only")
    if len(first._images) != len(second._images):
        raise OtherRow(second)
    images = second._images
    return with_images(tuple([images[value] for value in first._images]))
