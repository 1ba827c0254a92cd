"""The module fillings: all fillings of short words for maps of short rows."""

import itertools

from markrounds import fillings as module
from markrounds.errors import InvalidWord, LimitExceeded
from markrounds.fillings import MAX_ROW, MAX_WORD, count_fillings, fillings
from markrounds.jams import needed
from markrounds.maps import RowMap
from markrounds.roundings import DownRounding, UpRounding, made, word_of
from values import QuickCase, all_down_roundings, all_row_maps, all_up_roundings, no_texts, shared_parts

KINDS = {"u": UpRounding, "d": DownRounding}


def words_of(many):
    return ["".join(letters) for letters in itertools.product("ud", repeat=many)]


def words_up_to(many):
    return [letters for length in range(many + 1) for letters in words_of(length)]


def marks_of(roundings):
    return tuple(rounding.ruler.marks for rounding in roundings)


def first_of(*given):
    """The first filling; errors may be raised by the call or by the reading."""
    return next(iter(fillings(*given)))


def searched(last, letters):
    """The marks of all fillings of the word for each map, by trying all roundings."""
    choices = {"u": all_up_roundings(last), "d": all_down_roundings(last)}
    found = {}
    for roundings in itertools.product(*[choices[letter] for letter in letters]):
        images = tuple(range(last + 1))
        for rounding in roundings:
            images = tuple(rounding(value) for value in images)
        found.setdefault(images, []).append(marks_of(roundings))
    return {images: sorted(rows) for images, rows in found.items()}


class ModuleTest(QuickCase):

    def test_the_names(self):
        self.assertEqual((MAX_ROW, MAX_WORD), (4, 4))
        self.assertEqual(fillings.__module__, "markrounds.fillings")
        self.assertEqual(count_fillings.__module__, "markrounds.fillings")
        self.assertIs(module.fillings, fillings)


class FillingsTest(QuickCase):

    def check_word(self, last, letters):
        found = searched(last, letters)
        for f in all_row_maps(last):
            wanted = found.get(f.images, [])
            rows = list(fillings(f, letters))
            self.assertEqual([marks_of(row) for row in rows], wanted)
            self.assertEqual(count_fillings(f, letters), len(wanted))
            for row in rows[:3] + rows[-3:]:
                self.assertIs(type(row), tuple)
                self.assertEqual([type(rounding) for rounding in row], [KINDS[letter] for letter in letters])
                self.assertTrue(made(last, *row) == f)

    def test_words_of_up_to_four_letters(self):
        for last in (1, 2):
            for letters in words_up_to(4):
                self.check_word(last, letters)

    def test_words_of_up_to_three_letters(self):
        for last in (3, 4):
            for letters in words_up_to(3 if last == 3 else 2):
                self.check_word(last, letters)

    def test_the_longest_words_of_the_longest_row(self):
        for letters in ("uuuu", "dudu"):
            total = 0
            for f in all_row_maps(4):
                rows = [marks_of(row) for row in fillings(f, letters)]
                self.assertEqual(rows, sorted(set(rows)))
                self.assertEqual(count_fillings(f, letters), len(rows))
                total += len(rows)
            # Each of the 16 rulers of a letter with each of the others makes one map.
            self.assertEqual(total, 16 ** 4)

    def test_each_filling_makes_the_map(self):
        for f in (RowMap(0, 0, 3, 3, 4), RowMap(4, 4, 4, 4, 4), RowMap(1, 1, 2, 2, 3), RowMap(0, 1, 2, 3, 4)):
            for letters in ("udud", "dduu", "uddu"):
                for row in fillings(f, letters):
                    self.assertTrue(made(4, *row) == f)
                    self.assertEqual(word_of(row), letters)

    def test_the_empty_word(self):
        for last in (1, 2, 3, 4):
            for f in all_row_maps(last):
                identity = f == RowMap.identity(last)
                self.assertEqual(list(fillings(f, "")), [()] if identity else [])
                self.assertEqual(count_fillings(f, ""), 1 if identity else 0)

    def test_words_without_enough_letters(self):
        for last in (1, 2, 3, 4):
            for f in all_row_maps(last):
                many_up, many_down = needed(f)
                for letters in words_up_to(4 if last < 4 else 3):
                    enough = letters.count("u") >= many_up and letters.count("d") >= many_down
                    self.assertEqual(count_fillings(f, letters) > 0, enough)
                    if not enough:
                        self.assertEqual(list(fillings(f, letters)), [])

    def test_arguments_by_name(self):
        f = RowMap(0, 0, 3, 3)
        self.assertEqual([marks_of(row) for row in fillings(f=f, letters="ud")],
                         [marks_of(row) for row in fillings(f, "ud")])
        self.assertEqual(count_fillings(letters="ud", f=f), 4)

    def test_a_caller_may_stop_early(self):
        f = RowMap(0, 0, 3, 3)
        for row in fillings(f, "uddu"):
            break
        self.assertEqual(marks_of(row), min(marks_of(row) for row in fillings(f, "uddu")))

    def test_two_lists_at_once(self):
        f, g = RowMap(0, 0, 3, 3), RowMap(3, 3, 3, 3)
        rows, others = list(fillings(f, "ud")), list(fillings(g, "uu"))
        one, other, third = iter(fillings(f, "ud")), iter(fillings(g, "uu")), iter(fillings(f, "ud"))
        for row, second in zip(rows, others):
            self.assertTrue(next(one) == row and next(other) == second and next(third) == row)
        pairs = [(marks_of(row), marks_of(second)) for row in fillings(f, "ud") for second in fillings(f, "ud")]
        self.assertEqual(len(set(pairs)), 16)


class ErrorsTest(QuickCase):

    def check(self, error, f, letters):
        return self.caught(error, first_of, f, letters), self.caught(error, count_fillings, f, letters)

    def test_wrong_values(self):
        for last in (3, 4, 5, 20):
            f = RowMap.identity(last)
            for value in no_texts() + [["u"], ("u",), b"u", {"u": 1}, shared_parts(60), "u" * 61, "x" * 20000]:
                for error in self.check(InvalidWord, f, value):
                    self.assertIsNone(error.spot)

    def test_other_characters(self):
        for last in (3, 5):
            f = RowMap.identity(last)
            for letters, spot in (("x", 0), ("uU", 1), ("ud d", 2), ("uddx", 3), ("uddux", 4), ("u" * 59 + "\n", 59)):
                for error in self.check(InvalidWord, f, letters):
                    self.assertEqual(error.spot, spot)

    def test_longer_rows(self):
        for last in range(5, 21):
            for letters in ("", "u", "ud", "uudd", "uuddu", "u" * 60):
                for f in (RowMap.identity(last), RowMap.constant(last, 2)):
                    for error in self.check(LimitExceeded, f, letters):
                        self.assertEqual(error.limit, 4)

    def test_longer_words(self):
        for last in (1, 4):
            for letters in ("uuuuu", "udud" * 2, "d" * 5, "u" * 60):
                for f in (RowMap.identity(last), RowMap.constant(last, 1)):
                    for error in self.check(LimitExceeded, f, letters):
                        self.assertEqual(error.limit, 4)

    def test_nothing_is_changed(self):
        f = RowMap(0, 0, 3, 3)
        given = ["u", ["d"]]
        self.check(InvalidWord, f, given)
        list(fillings(f, "udud"))
        count_fillings(f, "udud")
        self.assertEqual((f.images, given), ((0, 0, 3, 3), ["u", ["d"]]))
