"""The module texts: roundings written and read."""

import itertools

from markrounds import texts
from markrounds.errors import InvalidNumber, OtherRow, ParseError
from markrounds.roundings import DownRounding, UpRounding
from markrounds.rulers import Ruler
from markrounds.texts import read_roundings, roundings_text
from values import (
    QuickCase, all_down_roundings, all_up_roundings, drawn_roundings, no_texts, shared_parts, wrong_integers,
)

UP, DOWN = UpRounding(Ruler(3, 0, 1, 3)), DownRounding(Ruler(3, 0, 3))
WRONG_NUMBERS = (
    "00", "01", "03", "007", "-1", "+1", "-0", "1.0", "1e1", "x", "1x", "x1", "1,", "\u0663", "\u00b2", "_1", "1_0",
    "0x1", "10000", "00003", "12345", "1" * 5000, "0" * 5000, "9" * 19990, "\t1", "1\t", "row", "u", "d", "None",
)
WRITTEN = {str(value): value for value in range(10000)}


def wrong_spot(number, line, last):
    """The word of the line that is wrong by the rules, 0 for its form, or None."""
    if line == "" or line[0] == " " or line[-1] == " " or "  " in line:
        return 0
    words = line.split(" ")
    if number == 1:
        wanted = [words[:1] == ["row"], 1 <= WRITTEN.get("".join(words[1:2]), 0) <= 20, len(words) == 2]
        return None if all(wanted) else wanted.index(False) + 1
    if words[0] not in ("u", "d"):
        return 1
    before = -1
    for spot, word in enumerate(words[1:]):
        place = WRITTEN.get(word, -1)
        if not before < place <= last or (spot == 0 and words[0] == "d" and place != 0):
            return spot + 2
        before = place
    missing = len(words) == 1 or (words[0] == "u" and before != last)
    return len(words) + 1 if missing else None


def wrong_place(text):
    """The line and the word that are wrong by the rules, or None."""
    last = None
    for number, line in enumerate(text.split("\n"), start=1):
        spot = wrong_spot(number, line, last)
        if spot is not None:
            return number, spot
        if number == 1:
            last = int(line.split(" ")[1])
    return None


class WriteTest(QuickCase):

    def test_the_functions_are_defined_in_the_module(self):
        for name in ("roundings_text", "read_roundings"):
            self.assertEqual(getattr(texts, name).__module__, "markrounds.texts")

    def test_some_texts(self):
        for form in (list, tuple):
            self.assertEqual(roundings_text(3, form([])), "row 3")
            self.assertEqual(roundings_text(20, form([])), "row 20")
            self.assertEqual(roundings_text(3, form([UP])), "row 3\nu 0 1 3")
            self.assertEqual(roundings_text(roundings=form([DOWN, UP]), last=3), "row 3\nd 0 3\nu 0 1 3")
        full = "row 12\nu 0 1 2 3 4 5 6 7 8 9 10 11 12"
        self.assertEqual(roundings_text(12, [UpRounding(Ruler.full(12))]), full)

    def test_errors_as_made(self):
        other, third = UpRounding(Ruler(4, 4)), DownRounding(Ruler(2, 0))
        for last in wrong_integers(1, 20):
            for roundings in ([], [UP], (UP, other)):
                self.assertTrue(self.caught(InvalidNumber, roundings_text, last, roundings).value is last)
        for roundings, wrong in (([other], other), ((UP, other, third), other), ([third, UP, other], third)):
            self.assertIs(self.caught(OtherRow, roundings_text, 3, roundings).value, wrong)

    def test_nothing_is_changed(self):
        roundings, given = [UP, DOWN], [3, [3]]
        roundings_text(3, roundings)
        self.caught(InvalidNumber, roundings_text, given, roundings)
        self.caught(ParseError, read_roundings, given)
        self.assertTrue(len(roundings) == 2 and roundings[0] is UP and roundings[1] is DOWN)
        self.assertEqual(given, [3, [3]])


class RoundTripTest(QuickCase):

    def check_roundings(self, last, roundings):
        text = roundings_text(last, roundings)
        found = read_roundings(text)
        self.assertIs(type(found), tuple)
        self.assertEqual(found[0], last)
        self.assertIs(type(found[1]), tuple)
        self.assertTrue(found[1] == tuple(roundings))
        self.assertEqual(roundings_text(*found), text)
        self.assertIsNone(wrong_place(text))

    def test_every_last_place(self):
        for last in range(1, 21):
            for many in (0, 1, 2, 5, 120):
                self.check_roundings(last, drawn_roundings(last, many, many + last))

    def test_all_roundings_of_small_rows(self):
        for last in (1, 2, 3):
            roundings = all_up_roundings(last) + all_down_roundings(last)
            self.check_roundings(last, roundings)
            for pair in itertools.product(roundings, repeat=2):
                self.check_roundings(last, pair)

    def test_many_lines(self):
        for last, many in ((1, 4000), (20, 300)):
            self.check_roundings(last, drawn_roundings(last, many, 2))

    def test_arguments_by_name(self):
        last, roundings = read_roundings(text="row 3\nu 1 3\nd 0")
        self.assertEqual(last, 3)
        self.assertTrue(roundings == (UpRounding(Ruler(3, 1, 3)), DownRounding(Ruler(3, 0))))


class ParseTest(QuickCase):

    def check_wrong(self, text, line, word):
        error = self.caught(ParseError, read_roundings, text)
        self.assertEqual((error.line, error.word), (line, word), text[:60])

    def check_text(self, text):
        """As the rules say, whether the text is right or wrong."""
        place = wrong_place(text)
        if place is None:
            last, roundings = read_roundings(text)
            self.assertEqual(roundings_text(last, roundings), text)
        else:
            self.check_wrong(text, *place)

    def test_values_that_are_no_texts(self):
        for value in no_texts() + [b"row 3", ["row 3"], ("row", 3), 3, shared_parts(98)]:
            error = self.caught(ParseError, read_roundings, value)
            self.assertEqual((error.line, error.word), (0, 0))

    def test_the_first_line(self):
        for text, word in (("", 0), (" ", 0), ("\n", 0), ("row", 2), ("row ", 0), (" row 3", 0), ("row  3", 0),
                           ("row 3 ", 0), ("Row 3", 1), ("rows 3", 1), ("u 3", 1), ("3", 1), ("ro w 3", 1),
                           ("row 0", 2), ("row 21", 2), ("row 9999", 2), ("row 10000", 2), ("row 3 3", 3),
                           ("row 3 u", 3), ("row 0 3", 2), ("x 3 3", 1), ("row x y", 2), ("\trow 3", 1)):
            self.check_wrong(text, 1, word)
            self.check_wrong(text + "\nu 1 3", 1, word)
            self.check_wrong(text + "\n\nx", 1, word)

    def test_the_last_place(self):
        for last in range(1, 21):
            self.assertEqual(read_roundings(f"row {last}"), (last, ()))
        for word in WRONG_NUMBERS:
            self.check_wrong(f"row {word}", 1, 2)
            self.check_wrong(f"row {word} 3", 1, 2)

    def test_words_that_are_no_numbers(self):
        for word in WRONG_NUMBERS:
            self.check_wrong(f"row 20\nu {word} 20", 2, 2)
            self.check_wrong(f"row 20\nd {word} 20", 2, 2)
            self.check_wrong(f"row 20\nu 0 {word} 20", 2, 3)
            self.check_wrong(f"row 20\nu 20 {word}", 2, 3)
            self.check_wrong(f"row 20\nd 0 1 2 {word}", 2, 5)

    def test_letters(self):
        for word in ("x", "U", "D", "ud", "uu", "row", "3", "0", "u,", "\u00fc", "u\t1"):
            self.check_wrong(f"row 3\n{word}", 2, 1)
            self.check_wrong(f"row 3\n{word} 0 3", 2, 1)
            self.check_wrong(f"row 3\nu 3\n{word} 0 3", 3, 1)

    def test_missing_words(self):
        self.check_wrong("row 3\nu", 2, 2)
        self.check_wrong("row 3\nd", 2, 2)
        self.check_wrong("row 3\nd 0\nu\nu 3", 3, 2)

    def test_lines_u_that_do_not_end_with_the_last_place(self):
        self.check_wrong("row 3\nu 0", 2, 3)
        self.check_wrong("row 3\nu 0 1 2", 2, 5)
        self.check_wrong("row 3\nd 0\nu 2", 3, 3)
        self.check_wrong("row 20\nu " + " ".join(str(mark) for mark in range(20)), 2, 22)

    def test_lines_d_that_do_not_begin_with_0(self):
        self.check_wrong("row 3\nd 1", 2, 2)
        self.check_wrong("row 3\nd 3", 2, 2)
        self.check_wrong("row 3\nd 1 2 3", 2, 2)
        self.check_wrong("row 3\nd 4", 2, 2)
        self.check_wrong("row 3\nd 3 0", 2, 2)

    def test_marks_that_do_not_ascend_or_are_no_places(self):
        for text, word in (("u 0 0 3", 3), ("u 1 0 3", 3), ("u 3 3", 3), ("u 3 2", 3), ("u 0 2 1 3", 4), ("u 4", 2),
                           ("u 0 1 2 4", 5), ("u 2 21", 3), ("u 9999", 2), ("d 0 0", 3), ("d 0 3 2", 4),
                           ("d 0 4", 3), ("d 0 1 2 3 4", 6), ("d 0 9999", 3)):
            self.check_wrong(f"row 3\n{text}", 2, word)
            self.check_wrong(f"row 3\nu 3\nd 0\n{text}\nx", 4, word)

    def test_word_0(self):
        for line in ("", " ", "  ", " u 3", "u 3 ", "u  3", "u 0  3", " x", "x  x", "d  0", "d 0 ", "   u"):
            self.check_wrong(f"row 3\n{line}", 2, 0)
            self.check_wrong(f"row 3\nd 0\n{line}\nu 3", 3, 0)
        for text, number in (("row 3\n", 2), ("row 3\nu 3\n", 3), ("row 3\n\nu 3", 2), ("row 3\n\n", 2), ("\nrow 3", 1)):
            self.check_wrong(text, number, 0)

    def test_the_first_wrong_line_counts(self):
        self.check_wrong("row 3\nu 4\n\n", 2, 2)
        self.check_wrong("row 3\nu 3\nx\nu 4", 3, 1)
        self.check_wrong("row 3\n\nu 4", 2, 0)
        self.check_wrong("row 22\n\n", 1, 2)

    def test_texts_that_differ_by_one_word(self):
        text = "row 5\nu 0 2 5\nd 0 3 4\nu 5"
        lines = [line.split(" ") for line in text.split("\n")]
        for number, line in enumerate(lines):
            for spot in range(len(line) + 1):
                for word in ("0", "1", "2", "3", "4", "5", "6", "20", "21", "row", "u", "d", "", "x", "05", " "):
                    inserted = line[:spot] + [word] + line[spot:]
                    replaced = line[:spot] + [word] + line[spot + 1:]
                    removed = line[:spot] + line[spot + 1:]
                    for changed in (inserted, replaced, removed):
                        rows = lines[:number] + [changed] + lines[number + 1:]
                        self.check_text("\n".join(" ".join(row) for row in rows))

    def test_texts_that_differ_by_one_line_or_sign(self):
        text = "row 5\nu 0 2 5\nd 0 3 4\nu 5"
        lines = text.split("\n")
        for spot in range(len(lines) + 1):
            self.check_text("\n".join(lines[:spot] + lines[spot + 1:]))
            for line in ("", " ", "row 5", "u 5", "d 0", "d", "u 0 1 2 3 4 5", "u 6", "x"):
                self.check_text("\n".join(lines[:spot] + [line] + lines[spot:]))
                self.check_text("\n".join(lines[:spot] + [line] + lines[spot + 1:]))
        for spot in range(len(text) + 1):
            self.check_text(text[:spot] + text[spot + 1:])
            for sign in ("\n", " ", "0", "1", "u", "d", "x", "-", "\t", "\r"):
                self.check_text(text[:spot] + sign + text[spot:])
                self.check_text(text[:spot] + sign + text[spot + 1:])

    def test_long_wrong_texts(self):
        lines = ["row 1"] + ["u 1"] * 4000
        self.check_wrong("\n".join(lines) + "\n", 4002, 0)
        self.check_wrong("\n".join(lines + ["d"]), 4002, 2)
        self.check_wrong("row 3\nu" + " 3" * 9000, 2, 3)
        self.check_wrong("\n" * 20000, 1, 0)
        self.check_wrong("x" * 20000, 1, 1)
