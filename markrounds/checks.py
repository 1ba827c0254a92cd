"""Checks and bounds that several modules share."""

from markrounds.errors import OtherRow

# Read much faster than the class value Ruler.MAX_LAST, which it is equal to.
GREATEST_LAST = 20


def is_integer(value):
    """Tell whether the value is an integer."""
    # True and False are ints for isinstance; here they are not.
    return type(value) is int


def is_within(value, low, high):
    """Tell whether the value is an integer from low to high."""
    return type(value) is int and low <= value <= high


def held_within(value, low, high):
    """Return the integer from low to high that is nearest to the value."""
    if value < low:
        return low
    if value > high:
        return high
    return value


def check_same_row(one, other):
    """Raise OtherRow with the other one if the last places differ."""
    if one.last != other.last:
        raise OtherRow(other)
