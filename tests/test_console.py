"""The module console: commands and their results."""

import itertools
import random

from markrounds.console import Console
from markrounds.jams import needed
from markrounds.listing import rank_of_map
from markrounds.live import LiveRow
from markrounds.roundings import DownRounding, UpRounding, made
from markrounds.rulers import Ruler
from values import QuickCase, drawn_roundings, no_texts, shared_parts

NO_NUMBERS = (
    "00", "01", "007", "-1", "+1", "-0", "1.0", "x", "1x", "1,", "\u0663", "_1", "1_0", "0x1", "10000", "00003",
    "1" * 5000, "9" * 19990, "\t1", "1\n", "new", "None",
)


def prepared(*commands):
    console = Console()
    for command in commands:
        console.run(command)
    return console


def answers(console):
    """What tells the state of a console."""
    return [console.run(command) for command in ("word", "needs", "rank", *[f"at {place}" for place in range(21)])]


def command_of(rounding):
    word = "up" if rounding.LETTER == "u" else "down"
    return " ".join([word, *[str(mark) for mark in rounding.ruler.marks]])


class ConsoleCase(QuickCase):

    def check(self, console, command, wanted):
        found = console.run(command)
        self.assertIs(type(found), str)
        self.assertEqual(found, wanted)

    def check_fails(self, console, command, wanted):
        before = answers(console)
        self.check(console, command, wanted)
        self.assertEqual(answers(console), before)


class CommandsTest(ConsoleCase):

    def test_the_class(self):
        for name in ("__init__", "run"):
            self.assertIn(name, vars(Console))
        self.assertEqual(Console.__module__, "markrounds.console")
        self.assertEqual(Console().run(command="new 3"), "ok")

    def test_every_command(self):
        console = Console()
        for command, wanted in (
            ("new 3", "ok"), ("word", "none"), ("needs", "0 0"), ("rank", "14"), ("at 2", "2"), ("up 0 1 3", "ok"),
            ("word", "u"), ("needs", "1 0"), ("at 2", "3"), ("at 1", "1"), ("rank", "15"), ("down 0 3", "ok"),
            ("word", "ud"), ("needs", "1 1"), ("rank", "9"), ("at 1", "0"), ("undo", "ok"), ("word", "u"),
            ("undo", "ok"), ("word", "none"), ("undo", "nothing to undo"), ("down 3 0 0 3 1", "ok"), ("at 2", "1"),
            ("new 20", "ok"), ("word", "none"), ("at 20", "20"), ("new 1", "ok"), ("at 1", "1"),
        ):
            self.check(console, command, wanted)

    def test_ranks(self):
        # The numbers above, by a list of the 35 maps of the row.
        rows = sorted(itertools.combinations_with_replacement(range(4), 4))
        self.assertEqual((rows.index((0, 1, 2, 3)), rows.index((0, 1, 3, 3)), rows.index((0, 0, 3, 3))), (14, 15, 9))

    def test_before_new(self):
        for command in ("up 0 1 3", "down 0", "undo", "at 0", "at 9999", "word", "needs", "rank", "up 21", "down 9999"):
            self.check(Console(), command, "no row")
        for command in ("new 0", "new 21", "new 9999"):
            console = Console()
            self.check(console, command, "bad number")
            self.check(console, "word", "no row")

    def test_every_last_place(self):
        for last in range(1, 21):
            console = Console()
            self.check(console, f"new {last}", "ok")
            for place in range(last + 1):
                self.check(console, f"at {place}", str(place))
            self.check(console, f"at {last + 1}", "bad number")
            marks = " ".join(str(mark) for mark in range(last + 1))
            self.check(console, f"up {marks}", "ok")
            self.check(console, f"down {marks}", "ok")
            self.check(console, "needs", "0 0")
            self.check(console, f"up {last}", "ok")
            self.check(console, "word", "udu")
            self.check(console, "needs", "1 0")
            self.check(console, "rank", str(rank_of_map(made(last, UpRounding(Ruler(last, last))))))

    def test_drawn_roundings(self):
        for last in (4, 20):
            for seed in range(5):
                console, row = prepared(f"new {last}"), LiveRow(last)
                for rounding in drawn_roundings(last, 30, seed):
                    self.check(console, command_of(rounding), "ok")
                    row.do(rounding)
                    self.check(console, "word", row.letters)
                    self.check(console, "needs", "{} {}".format(*needed(row.state)))
                    self.check(console, "rank", str(rank_of_map(row.state)))
                    for place in range(last + 1):
                        self.check(console, f"at {place}", str(row(place)))
                for _ in range(30):
                    self.check(console, "undo", "ok")
                    row.undo()
                    self.check(console, "rank", str(rank_of_map(row.state)))
                self.check(console, "undo", "nothing to undo")

    def test_numbers_of_maps_with_more_than_four_digits(self):
        console = prepared("new 20")
        self.check(console, "rank", str(rank_of_map(LiveRow(20).state)))
        self.assertGreater(len(console.run("rank")), 4)
        console.run("up 20")
        self.check(console, "rank", "269128937219")
        console.run("down 0")
        self.check(console, "rank", "0")

    def test_two_consoles(self):
        one, other = prepared("new 3", "up 3"), prepared("new 4")
        self.check(one, "word", "u")
        self.check(other, "word", "none")
        self.check(other, "at 4", "4")
        self.check(one, "at 4", "bad number")


class FailuresTest(ConsoleCase):

    def rows(self):
        """Consoles without a row, with an empty one, and with roundings done."""
        return [Console(), prepared("new 3"), prepared("new 3", "up 0 1 3", "down 0 3")]

    def test_other_values(self):
        for console in self.rows():
            before = answers(console)
            for value in no_texts() + [b"word", ["word"], ("new", 3), {"word": 1}, shared_parts(98)]:
                self.check(console, value, "bad command")
            self.assertEqual(answers(console), before)

    def test_wrong_forms(self):
        commands = [
            "", " ", "  ", "\n", "x", "New 3", "NEW 3", "up", "down", "new", "at", "new 3 3", "at 1 1", "undo 1",
            "word 1", "needs 0", "rank 0", "words", "un do", "undo undo", "word word", "new\n3", "word\n", "u 3",
            "d 0", "row 3", "3", "3 new", "up x", "down 0 x", "up 3,", "new  3", "at  1", "up 0  3", "x" * 20000,
        ]
        right = ("new 3", "up 0 3", "down 0", "undo", "at 1", "word", "needs", "rank")
        commands += [space + command for command in right for space in (" ", "  ", "\n", "\t")]
        commands += [command + space for command in right for space in (" ", "  ", "\n", "\t", " \n")]
        for console in self.rows():
            for command in commands:
                self.check_fails(console, command, "bad command")

    def test_wrong_numbers_by_form(self):
        for console in self.rows():
            for number in NO_NUMBERS:
                for command in (f"new {number}", f"at {number}", f"up {number}", f"down {number}", f"up 0 {number} 3",
                                f"down 0 3 {number}"):
                    self.check_fails(console, command, "bad command")

    def test_bad_numbers(self):
        for console in self.rows()[1:]:
            for command in ("new 0", "new 21", "new 9999", "at 4", "at 20", "at 9999", "up 4", "up 0 3 4", "up 4 0",
                            "down 4", "down 9999 0", "up 1 2 9999", "down 0 1 2 3 4"):
                self.check_fails(console, command, "bad number")

    def test_missing_marks(self):
        for console in self.rows()[1:]:
            for command in ("up 0", "up 0 1 2", "up 2", "down 3", "down 1 2 3", "down 1"):
                self.check_fails(console, command, "missing mark")

    def test_too_many_steps(self):
        console = prepared("new 3")
        for many in range(100):
            self.check(console, "up 0 1 2 3", "ok")
            self.assertEqual(console.run("word"), "u" * (many + 1))
        for command in ("up 3", "down 0", "up 0 1 2 3", "down 0 1 2 3"):
            self.check_fails(console, command, "too many steps")
        # What stands earlier in the order of the exceptions is told first.
        self.check_fails(console, "up 4 3", "bad number")
        self.check_fails(console, "up 0 1", "missing mark")
        self.check(console, "undo", "ok")
        self.check(console, "down 0", "ok")
        self.check(console, "word", "u" * 99 + "d")
        self.check_fails(console, "up 3", "too many steps")

    def test_nothing_to_undo(self):
        console = prepared("new 3", "up 3", "undo")
        for _ in range(3):
            self.check_fails(console, "undo", "nothing to undo")

    def test_the_first_text_counts(self):
        self.check(Console(), "up 99999", "bad command")
        self.check(Console(), "up 9999", "no row")
        self.check(Console(), "new 9999", "bad number")
        console = prepared("new 3")
        self.check(console, "up 0 9999", "bad number")
        self.check(console, "up 0 99999", "bad command")
        self.check(console, "down 3 9999", "bad number")

    def test_long_commands(self):
        console = prepared("new 3")
        self.check(console, "up" + " 3" * 9000, "ok")
        self.check(console, "at 0", "3")
        self.check(console, "down" + " 0" * 9000 + " 4", "bad number")
        self.check(console, "down" + " 1" * 9000, "missing mark")
        self.check(console, "at" + " 1" * 9000, "bad command")

    def test_drawn_commands(self):
        draw = random.Random(1)
        words = ("new", "up", "down", "undo", "at", "word", "needs", "rank", "0", "1", "2", "3", "4", "", "x", "-1")
        results = {"ok", "bad command", "no row", "bad number", "missing mark", "nothing to undo", "none"}
        for console in self.rows():
            found = set()
            for _ in range(2000):
                command = " ".join(draw.choices(words, k=draw.randint(0, 4)))
                found.add(console.run(command))
            others = [text for text in found - results if not text.replace(" ", "0").isdigit()]
            self.assertTrue(all(set(text) <= {"u", "d"} for text in others))

    def test_nothing_is_changed(self):
        given = ["new 3", ["up"]]
        self.check(prepared("new 3"), given, "bad command")
        self.assertEqual(given, ["new 3", ["up"]])


class DownTest(ConsoleCase):

    def test_the_same_marks_up_and_down(self):
        for marks in itertools.combinations(range(4), 3):
            text = " ".join(str(mark) for mark in marks)
            for word, kind, end in (("up", UpRounding, 3), ("down", DownRounding, 0)):
                console = prepared("new 3")
                if end in marks:
                    self.check(console, f"{word} {text}", "ok")
                    for place in range(4):
                        self.check(console, f"at {place}", str(kind(Ruler(3, *marks))(place)))
                else:
                    self.check(console, f"{word} {text}", "missing mark")
