"""Rulers: nonempty sets of marks on the places of a row."""

from markrounds.checks import check_same_row, is_integer, is_within
from markrounds.errors import EmptyRuler, InvalidNumber, InvalidRuler


class Ruler:
    """Marks on some places of a row. A ruler never changes."""

    MAX_LAST = 20

    def __init__(self, last, *marks):
        if not is_last(last):
            raise InvalidRuler("last")
        spot = _wrong_mark(last, marks)
        if spot is not None:
            raise InvalidRuler("marks", spot)
        if len(marks) == 0:
            raise EmptyRuler()
        self._last = last
        self._marks = tuple([place for place in range(last + 1) if place in marks])

    @classmethod
    def full(cls, last):
        """Return the ruler on which all places are marks."""
        if not is_last(last):
            raise InvalidRuler("last")
        marks = tuple(range(last + 1))
        return cls(last, *marks)

    @staticmethod
    def is_ruler(last, *marks):
        """Tell whether there is a ruler with this last place and these marks."""
        return is_last(last) and len(marks) > 0 and _wrong_mark(last, marks) is None

    @property
    def last(self):
        """The last place of the row."""
        return self._last

    @property
    def places(self):
        """All places of the row."""
        return tuple(range(self._last + 1))

    @property
    def marks(self):
        """The marks, ascending."""
        return self._marks

    def __len__(self):
        return len(self._marks)

    def __eq__(self, other):
        return isinstance(other, Ruler) and self._last == other._last and self._marks == other._marks

    def __contains__(self, mark):
        return is_integer(mark) and mark in self._marks

    def __getitem__(self, n):
        if not is_within(n, 0, len(self._marks) - 1):
            raise InvalidNumber(n)
        return self._marks[n]

    # Without this, Python would iterate by [ ] and stop at an InvalidNumber.
    def __iter__(self):
        raise TypeError("a ruler is not iterated over")

    def __neg__(self):
        marks = [self._last - mark for mark in self._marks]
        return Ruler(self._last, *marks)

    def __or__(self, other):
        _check_ruler(other)
        check_same_row(self, other)
        marks = [place for place in self.places if place in self or place in other]
        return Ruler(self._last, *marks)

    def __and__(self, other):
        _check_ruler(other)
        check_same_row(self, other)
        marks = [mark for mark in self._marks if mark in other]
        return Ruler(self._last, *marks)

    def __sub__(self, other):
        _check_ruler(other)
        check_same_row(self, other)
        marks = [mark for mark in self._marks if mark not in other]
        return Ruler(self._last, *marks)

    def __le__(self, other):
        _check_ruler(other)
        return _is_part(self, other)

    def __lt__(self, other):
        _check_ruler(other)
        return _is_part(self, other) and len(self) < len(other)

    # a >= b means b <= a, also in that the exception names a.
    def __ge__(self, other):
        _check_ruler(other)
        return _is_part(other, self)

    def __gt__(self, other):
        _check_ruler(other)
        return _is_part(other, self) and len(other) < len(self)


def is_last(value):
    """Tell whether the value is the last place of a row."""
    return is_within(value, 1, Ruler.MAX_LAST)


def _wrong_mark(last, marks):
    """Return the position of the first mark that is not a place, or None."""
    for spot, mark in enumerate(marks):
        if not is_within(mark, 0, last):
            return spot
    return None


def _check_ruler(value):
    # Raised here, not left to Python: the value could answer for itself then.
    if not isinstance(value, Ruler):
        raise TypeError("the operator is described for two rulers only")


def _is_part(part, whole):
    check_same_row(part, whole)
    return all([mark in whole for mark in part.marks])
