"""Rulers: nonempty sets of marks on the places of a row."""

from markrounds.checks import GREATEST_LAST, check_same_row, is_within
from markrounds.errors import EmptyRuler, InvalidNumber, InvalidRuler

# The bit of each place that a row may have.
BITS = (
    1, 2, 4, 8, 16, 32, 64, 128, 256, 512, 1024, 2048, 4096, 8192, 16384, 32768, 65536, 131072, 262144, 524288, 1048576,
)


class Ruler:
    """Marks on some places of a row. A ruler never changes."""

    MAX_LAST = 20

    # The marks are kept as the bits of an integer: the operators take far less
    # time on one integer than on all the marks. The checks are those of is_last
    # and is_within, but without calls, which would take more time than the rest.
    def __init__(self, last, *marks):
        if type(last) is not int or last < 1 or last > GREATEST_LAST:
            raise InvalidRuler("last")
        bits = 0
        for mark in marks:
            if type(mark) is not int or mark < 0 or mark > last:
                raise InvalidRuler("marks", _wrong_mark(last, marks))
            bits = bits | BITS[mark]
        if bits == 0:
            raise EmptyRuler()
        self._last = last
        self._bits = bits
        self._marks = None

    @classmethod
    def full(cls, last):
        """Return the ruler on which all places are marks."""
        if not is_last(last):
            raise InvalidRuler("last")
        marks = tuple(range(last + 1))
        return cls(last, *marks)

    @staticmethod
    def is_ruler(last, *marks):
        """Tell whether there is a ruler with this last place and these marks."""
        try:
            Ruler(last, *marks)
        except (InvalidRuler, EmptyRuler):
            return False
        return True

    @property
    def last(self):
        """The last place of the row."""
        return self._last

    @property
    def places(self):
        """All places of the row."""
        return tuple(range(self._last + 1))

    @property
    def marks(self):
        """The marks, ascending."""
        if self._marks is None:
            self._marks = _marks_of(self._bits, self._last)
        return self._marks

    def __len__(self):
        return len(self.marks)

    def __eq__(self, other):
        return isinstance(other, Ruler) and self._last == other._last and self._bits == other._bits

    def __contains__(self, mark):
        # As is_within, but without a call, which takes more time than the rest.
        return type(mark) is int and 0 <= mark <= self._last and (self._bits & BITS[mark]) != 0

    def __getitem__(self, n):
        if not is_within(n, 0, len(self.marks) - 1):
            raise InvalidNumber(n)
        return self.marks[n]

    # Without this, Python would iterate by [ ] and stop at an InvalidNumber.
    def __iter__(self):
        raise TypeError("a ruler is not iterated over")

    def __neg__(self):
        bits = 0
        for mark in self.marks:
            bits = bits | BITS[self._last - mark]
        return _with_bits(self._last, bits)

    # Rulers are put together one mark after the other, so that r | s is what is
    # called most: it looks for itself whether there is an error, and a mark is
    # always left.
    def __or__(self, other):
        if not isinstance(other, Ruler) or self._last != other._last:
            _check_pair(self, other)
        both = Ruler(self._last, 0)
        both._bits = self._bits | other._bits
        return both

    def __and__(self, other):
        _check_pair(self, other)
        return _with_bits(self._last, self._bits & other._bits)

    def __sub__(self, other):
        _check_pair(self, other)
        return _with_bits(self._last, self._bits & ~other._bits)

    def __le__(self, other):
        _check_ruler(other)
        return _is_part(self, other)

    def __lt__(self, other):
        _check_ruler(other)
        return _is_part(self, other) and self._bits != other._bits

    # a >= b means b <= a, also in that the exception names a.
    def __ge__(self, other):
        _check_ruler(other)
        return _is_part(other, self)

    def __gt__(self, other):
        _check_ruler(other)
        return _is_part(other, self) and self._bits != other._bits


def is_last(value):
    """Tell whether the value is the last place of a row."""
    return is_within(value, 1, Ruler.MAX_LAST)


def _wrong_mark(last, marks):
    """Return the position of the first mark that is not a place."""
    spot = 0
    while is_within(marks[spot], 0, last):
        spot += 1
    return spot


def _marks_of(bits, last):
    return tuple([place for place, bit in enumerate(BITS[:last + 1]) if bits & bit])


def _with_bits(last, bits):
    """Return the ruler with these bits, without a check of each mark."""
    if bits == 0:
        raise EmptyRuler()
    ruler = Ruler(last, 0)
    ruler._bits = bits
    return ruler


def _check_ruler(value):
    # Raised here, not left to Python: the value could answer for itself then.
    if not isinstance(value, Ruler):
        raise TypeError("the operator is described for two rulers only")


def _check_pair(one, other):
    _check_ruler(other)
    check_same_row(one, other)


def _is_part(part, whole):
    check_same_row(part, whole)
    return (part._bits & whole._bits) == part._bits
