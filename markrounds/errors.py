"""The exceptions of the package."""


class MarkroundsError(ValueError):
    """The base class of all exceptions of the package; never raised itself."""

    # A field may be a value with more parts than could ever be written out,
    # so neither the text nor the shown form of an exception contains it.
    def __repr__(self):
        return f"{self.__class__.__name__}: {self!s}"


class InvalidRuler(MarkroundsError):
    """The last place ("last") or a mark ("marks", spot) is wrong."""

    def __init__(self, part, spot=None):
        self.part = part
        self.spot = spot

    def __str__(self):
        return "the last place or a mark of a ruler is wrong"


class EmptyRuler(MarkroundsError):
    """A ruler would have no mark."""

    def __init__(self):
        pass

    def __str__(self):
        return "a ruler needs at least one mark"


class OtherRow(MarkroundsError):
    """The value belongs to another row."""

    def __init__(self, value):
        self.value = value

    def __str__(self):
        return "the last places differ"


class InvalidMap(MarkroundsError):
    """The number of values (None), or the value at this spot, makes no map."""

    def __init__(self, spot=None):
        self.spot = spot

    def __str__(self):
        return "these values make no map of a row"


class InvalidPlace(MarkroundsError):
    """The value is not a place of the row."""

    def __init__(self, value):
        self.value = value

    def __str__(self):
        return "the value is not a place of the row"


class InvalidNumber(MarkroundsError):
    """The value is not an allowed number."""

    def __init__(self, value):
        self.value = value

    def __str__(self):
        return "the value is not an allowed number"


class MissingMark(MarkroundsError):
    """A rounding needs a mark on this place."""

    def __init__(self, place):
        self.place = place

    def __str__(self):
        return "the ruler lacks a mark that the rounding needs"


class InvalidWord(MarkroundsError):
    """The value is no word (None), or the character at this spot is wrong."""

    def __init__(self, spot=None):
        self.spot = spot

    def __str__(self):
        return "a word is a short text of the letters u and d"


class InvalidAnswer(MarkroundsError):
    """This part of an answer is wrong."""

    def __init__(self, part):
        self.part = part

    def __str__(self):
        return "the answer is not a jam"


class TooFew(MarkroundsError):
    """The word has too few letters, for this reason."""

    def __init__(self, reason):
        self.reason = reason

    def __str__(self):
        return "the word has too few letters of one kind"


class InvalidRank(MarkroundsError):
    """The value is not the number of a map."""

    def __init__(self, value):
        self.value = value

    def __str__(self):
        return "the value is not the number of a map"


class LimitExceeded(MarkroundsError):
    """Something is greater than this limit."""

    def __init__(self, limit):
        self.limit = limit

    def __str__(self):
        return "a limit is exceeded"


class Lost(MarkroundsError):
    """The two places of this pair cannot be told apart any more."""

    def __init__(self, pair):
        self.pair = pair

    def __str__(self):
        return "two places stand together that the other map keeps apart"


class NothingToUndo(MarkroundsError):
    """There is no rounding to undo."""

    def __init__(self):
        pass

    def __str__(self):
        return "there is no rounding to undo"


class ParseError(MarkroundsError):
    """A text is wrong at this line and word, both numbered from 1."""

    def __init__(self, line, word):
        self.line = line
        self.word = word

    def __str__(self):
        return "the text is not one of some roundings"
