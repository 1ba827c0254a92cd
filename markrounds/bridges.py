"""Bridges: roundings that lead from one map to another one."""

from markrounds.checks import check_same_row
from markrounds.errors import Lost, TooFew
from markrounds.jams import longest_lengths
from markrounds.roundings import DownRounding, UpRounding, made
from markrounds.rulers import Ruler
from markrounds.words import Filler, check_word, fewest_word, filling


def single_rounding(f):
    """Return the rounding that makes the map, with its values as marks, or None."""
    if not f.is_still:
        return None
    last, images = f.last, f.images
    if f.is_up:
        return UpRounding(Ruler(last, *images))
    if f.is_down:
        return DownRounding(Ruler(last, *images))
    return None


def shortened(last, *roundings):
    """Return the fewest roundings that make the same map, all up-roundings first."""
    f = made(last, *roundings)
    filler = Filler(fewest_word(f))
    return filler(f)


def needed_between(f, g):
    """Return the fewest numbers of up-roundings and down-roundings of a bridge from f to g."""
    check_not_lost(f, g)
    return longest_lengths(_classes_between(f, g))


def bridge(f, g, letters):
    """Return a bridge from f to g whose roundings have these letters."""
    check_word(letters)
    check_not_lost(f, g)
    classes = _classes_between(f, g)
    many_up, many_down = longest_lengths(classes)
    if letters.count("u") < many_up:
        raise TooFew("u")
    if letters.count("d") < many_down:
        raise TooFew("d")
    return filling(letters, f.last, classes)


def check_not_lost(f, g):
    """Raise OtherRow if g is a map of another row, and Lost if it is lost for f."""
    check_same_row(f, g)
    before, after = f.images, g.images
    for place in range(f.last):
        if before[place] == before[place + 1] and after[place] != after[place + 1]:
            raise Lost((place, place + 1))


def _classes_between(f, g):
    """Return the classes of g, with the places at which f puts their least and greatest places."""
    places = f.images
    return [(places[least], places[greatest], value) for least, greatest, value in g.classes]
