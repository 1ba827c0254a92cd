"""The module words: fillers, and the word of the fewest letters."""

import inspect
import itertools
import random

from markrounds.errors import InvalidWord, TooFew
from markrounds.jams import check_jam, down_jam, needed, up_jam
from markrounds.maps import RowMap
from markrounds.roundings import DownRounding, UpRounding, made, word_of
from markrounds.words import Filler, fewest_word
from values import QuickCase, all_row_maps, no_texts, shared_parts, some_row_maps


def words_with(many_up, many_down):
    """All words with so many letters of each kind."""
    many = many_up + many_down
    return ["".join("u" if spot in spots else "d" for spot in range(many))
            for spots in itertools.combinations(range(many), many_up)]


class FillerTest(QuickCase):

    def test_the_class(self):
        for name in ("__init__", "letters", "__call__"):
            self.assertIn(name, vars(Filler))
        self.assertIsInstance(inspect.getattr_static(Filler, "letters"), property)
        self.assertEqual(Filler.__module__, "markrounds.words")

    def test_letters(self):
        for letters in ("", "u", "d", "ud", "du", "uudd", "u" * 60, "d" * 60, "ud" * 30, "u" + "d" * 59):
            self.assertEqual(Filler(letters).letters, letters)
            self.assertEqual(Filler(letters=letters).letters, letters)
        self.caught(AttributeError, setattr, Filler("u"), "letters", "d")

    def test_words_that_are_too_long(self):
        for letters in ("u" * 61, "d" * 61, "ud" * 31, "u" * 20000, "x" * 61, "u" * 60 + " ", "\n" * 61, "u" * 30000):
            self.assertIsNone(self.caught(InvalidWord, Filler, letters).spot)

    def test_other_characters_at_every_position(self):
        for letters in ("u", "dd", "udu", "ud" * 30):
            for spot in range(len(letters)):
                for sign in ("U", "D", " ", "x", "\n", "0", "~", "\u00fc"):
                    wrong = letters[:spot] + sign + letters[spot + 1:]
                    self.assertEqual(self.caught(InvalidWord, Filler, wrong).spot, spot)

    def test_the_first_of_several_other_characters_is_named(self):
        for first, second in itertools.combinations(range(6), 2):
            letters = list("ududdu")
            letters[first], letters[second] = "x", "U"
            self.assertEqual(self.caught(InvalidWord, Filler, "".join(letters)).spot, first)

    def test_values_that_are_no_texts(self):
        for value in no_texts() + [b"ud", ["u", "d"], ("u",), {"u": 1}, shared_parts(60)]:
            self.assertIsNone(self.caught(InvalidWord, Filler, value).spot)
        given = ["u", ["d"]]
        self.caught(InvalidWord, Filler, given)
        self.assertEqual(given, ["u", ["d"]])


class FillingTest(QuickCase):

    def check_filling(self, letters, f):
        some = Filler(letters)(f)
        self.assertIs(type(some), tuple)
        kinds = {"u": UpRounding, "d": DownRounding}
        self.assertEqual([type(rounding) for rounding in some], [kinds[letter] for letter in letters])
        self.assertEqual(word_of(some), letters)
        # Also without the function made.
        values = range(f.last + 1)
        for rounding in some:
            self.assertEqual(rounding.ruler.last, f.last)
            values = [rounding(value) for value in values]
        self.assertEqual(tuple(values), f.images)
        self.assertTrue(made(f.last, *some) == f)

    def test_all_orders_of_the_needed_letters(self):
        for last in (1, 2, 3, 4, 5):
            for f in all_row_maps(last):
                for letters in words_with(*needed(f)):
                    self.check_filling(letters, f)

    def test_more_letters_than_needed(self):
        for last in (1, 2, 3):
            for f in all_row_maps(last):
                many_up, many_down = needed(f)
                for more_up, more_down in itertools.product(range(3), repeat=2):
                    for letters in words_with(many_up + more_up, many_down + more_down):
                        self.check_filling(letters, f)

    def test_maps_of_longer_rows(self):
        draw = random.Random(13)
        for last in (6, 10, 20):
            for f in some_row_maps(last, 40, last + 2):
                many_up, many_down = needed(f)
                rest = 60 - many_up - many_down
                for more in (0, 1, rest // 2, rest):
                    letters = list("u" * many_up + "d" * many_down) + draw.choices("ud", k=more)
                    draw.shuffle(letters)
                    self.check_filling("".join(letters), f)

    def test_ups_first_and_downs_first(self):
        for f in some_row_maps(20, 40, 6):
            many_up, many_down = needed(f)
            self.check_filling("u" * many_up + "d" * many_down, f)
            self.check_filling("d" * many_down + "u" * many_up, f)

    def test_longest_words(self):
        for letters in ("ud" * 30, "u" * 30 + "d" * 30, "d" * 30 + "u" * 30):
            for f in some_row_maps(20, 10, 8):
                self.check_filling(letters, f)
        self.check_filling("u" * 60, RowMap.shift(20, 1))
        self.check_filling("d" * 60, RowMap.shift(20, -1))

    def test_no_letters(self):
        for last in range(1, 21):
            self.assertEqual(Filler("")(RowMap.identity(last)), ())
        self.assertEqual(self.caught(TooFew, Filler(""), RowMap(1, 1)).reason, ("up", 0, 1))
        self.assertEqual(self.caught(TooFew, Filler(""), RowMap(0, 0)).reason, ("down", 0, 1))

    def check_too_few(self, letters, f, jam):
        reason = self.caught(TooFew, Filler(letters), f).reason
        self.assertIs(type(reason), tuple)
        self.assertEqual((reason[0], reason[2]), (jam[0], jam[2]))
        self.assertEqual(check_jam(f, reason), jam[2])

    def check_too_few_of_each(self, f):
        many_up, many_down = needed(f)
        if many_up:
            for letters in words_with(many_up - 1, min(many_down, 2))[:5]:
                self.check_too_few(letters, f, up_jam(f))
            self.check_too_few("u" * (many_up - 1) + "d" * (many_down + 1), f, up_jam(f))
        if many_down:
            self.check_too_few("u" * many_up + "d" * (many_down - 1), f, down_jam(f))
            self.check_too_few("d" * (many_down - 1) + "u" * (many_up + 1), f, down_jam(f))
        if many_up and many_down:
            self.check_too_few("d" * (many_down - 1) + "u" * (many_up - 1), f, up_jam(f))

    def test_too_few_letters(self):
        for last in (1, 2, 3, 4):
            for f in all_row_maps(last):
                self.check_too_few_of_each(f)
        for f in some_row_maps(20, 40, 7):
            self.check_too_few_of_each(f)

    def test_a_filler_is_called_again(self):
        filler = Filler("uuddud")
        first = filler(RowMap(0, 0, 3, 3))
        self.caught(TooFew, filler, RowMap.shift(20, 1))
        second = filler(f=RowMap(1, 1, 1))
        again = filler(RowMap(0, 0, 3, 3))
        self.assertEqual(filler.letters, "uuddud")
        self.assertEqual(made(2, *second).images, (1, 1, 1))
        for some in (first, again):
            self.assertEqual((word_of(some), made(3, *some).images), ("uuddud", (0, 0, 3, 3)))

    def test_nothing_is_changed(self):
        f = RowMap(0, 0, 3, 3)
        Filler("ud")(f)
        self.caught(TooFew, Filler("u"), f)
        fewest_word(f)
        self.assertEqual((f.last, f.images, f.classes), (3, (0, 0, 3, 3), ((0, 1, 0), (2, 3, 3))))


class FewestWordTest(QuickCase):

    def check_word(self, f):
        letters = fewest_word(f)
        many_up, many_down = needed(f)
        self.assertIs(type(letters), str)
        self.assertEqual(letters, "u" * many_up + "d" * many_down)
        self.assertTrue(made(f.last, *Filler(letters)(f)) == f)

    def test_some_maps(self):
        for f, letters in (
            (RowMap(0, 0, 3, 3), "ud"), (RowMap(1, 2, 2), "uu"), (RowMap(0, 0, 1, 2), "ddd"),
            (RowMap.identity(20), ""), (RowMap.shift(20, 1), "u" * 20), (RowMap.shift(20, -1), "d" * 20),
            (RowMap(1, 1, 2, 2, 3), "udd"),
        ):
            self.assertEqual(fewest_word(f), letters)
            self.assertEqual(fewest_word(f=f), letters)

    def test_all_maps_of_small_rows(self):
        for last in (1, 2, 3, 4, 5):
            for f in all_row_maps(last):
                self.check_word(f)

    def test_maps_of_longer_rows(self):
        for last in (9, 20):
            for f in some_row_maps(last, 40, last + 3):
                self.check_word(f)
