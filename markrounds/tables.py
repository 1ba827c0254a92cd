"""Tables of maps and of roundings, as texts."""

from markrounds.roundings import check_roundings


def map_table(f):
    """Return a line with the places and a line with their values."""
    places = list(range(f.last + 1))
    return "\n".join([_columns(places), _columns(f.images)])


def steps_table(last, roundings):
    """Return a line with the places and for each rounding one that tells where they stand."""
    check_roundings(last, roundings)
    places = list(range(last + 1))
    lines = [f"  {_columns(places)}"]
    for rounding in roundings:
        images = rounding.as_map().images
        places = [images[place] for place in places]
        lines.append(f"{rounding.LETTER} {_columns(places)}")
    return "\n".join(lines)


def _columns(places):
    return "".join([f"{place:>3}" for place in places])
