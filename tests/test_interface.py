"""The names of the interface, where they are defined, and their arguments."""

import importlib
import inspect
import unittest

# The functions and classes of each module, with the parameters of those that
# are called; a star marks a parameter that takes any number of arguments.
FUNCTIONS = {
    "roundings": {"made": ("last", "*roundings"), "word_of": ("roundings",)},
    "jams": {
        "ups": ("f",), "downs": ("f",), "needed": ("f",), "up_jam": ("f",), "down_jam": ("f",),
        "check_jam": ("f", "answer"),
    },
    "words": {"fewest_word": ("f",)},
    "listing": {
        "count_maps": ("last",), "map_by_rank": ("last", "rank"), "rank_of_map": ("f",),
        "all_maps": ("last", "start=0"), "needs_table": ("last",),
    },
    "fillings": {"fillings": ("f", "letters"), "count_fillings": ("f", "letters")},
    "bridges": {
        "single_rounding": ("f",), "shortened": ("last", "*roundings"), "needed_between": ("f", "g"),
        "bridge": ("f", "g", "letters"),
    },
    "tables": {"map_table": ("f",), "steps_table": ("last", "roundings")},
    "texts": {"roundings_text": ("last", "roundings"), "read_roundings": ("text",)},
}
CLASSES = {
    "rulers": {
        "Ruler": {"": ("last", "*marks"), "full": ("last",), "is_ruler": ("last", "*marks")},
    },
    "maps": {
        "RowMap": {
            "": ("*values",), "of": ("values",), "identity": ("last",), "constant": ("last", "value"),
            "shift": ("last", "by"), "beside": ("self", "other"), "__call__": ("self", "place"),
        },
    },
    "roundings": {
        "UpRounding": {"": ("ruler",), "as_map": ("self",), "__call__": ("self", "place")},
        "DownRounding": {"": ("ruler",), "as_map": ("self",), "__call__": ("self", "place")},
    },
    "words": {"Filler": {"": ("letters",), "__call__": ("self", "f")}},
    "live": {
        "LiveRow": {
            "": ("last",), "do": ("self", "*roundings"), "would": ("self", "*roundings"), "undo": ("self",),
            "states": ("self",), "copy": ("self",), "__call__": ("self", "place"),
        },
        "GoalRow": {
            "": ("goal",), "do": ("self", "*roundings"), "would": ("self", "*roundings"), "undo": ("self",),
            "states": ("self",), "copy": ("self",), "__call__": ("self", "place"),
        },
    },
    "console": {"Console": {"": (), "run": ("self", "command")}},
}
CONSTANTS = (
    ("rulers", "Ruler.MAX_LAST", 20), ("listing", "MAX_TABLE", 5), ("fillings", "MAX_ROW", 4),
    ("fillings", "MAX_WORD", 4), ("live", "LiveRow.MAX_STEPS", 100), ("roundings", "UpRounding.LETTER", "u"),
    ("roundings", "DownRounding.LETTER", "d"),
)


def module_of(name):
    return importlib.import_module(f"markrounds.{name}")


def parameters_of(called):
    return tuple(str(parameter) for parameter in inspect.signature(called).parameters.values())


class InterfaceTest(unittest.TestCase):

    def test_functions(self):
        for module, functions in FUNCTIONS.items():
            for name, parameters in functions.items():
                with self.subTest(module, name=name):
                    function = getattr(module_of(module), name)
                    self.assertTrue(inspect.isfunction(function))
                    self.assertEqual(function.__module__, f"markrounds.{module}")
                    self.assertEqual(parameters_of(function), parameters)

    def test_classes_and_methods(self):
        for module, classes in CLASSES.items():
            for name, methods in classes.items():
                kind = getattr(module_of(module), name)
                self.assertEqual(kind.__module__, f"markrounds.{module}")
                for method, parameters in methods.items():
                    with self.subTest(name, method=method):
                        called = getattr(kind, method) if method else kind
                        self.assertEqual(parameters_of(called), parameters)

    def test_constants(self):
        for module, names, value in CONSTANTS:
            found = module_of(module)
            for name in names.split("."):
                found = getattr(found, name)
            self.assertEqual((names, found), (names, value))
