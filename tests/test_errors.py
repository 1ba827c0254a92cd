"""The classes of exceptions: bases, constructor parameters, fields."""

import copy
import inspect
import pickle

from markrounds import errors
from values import HUGE, QuickCase, Touchy, no_integers, shared_parts

# Each class with its parameters, and the values of those that may be left out.
PARAMETERS = {
    "InvalidRuler": (("part",), {"spot": None}),
    "EmptyRuler": ((), {}),
    "OtherRow": (("value",), {}),
    "InvalidMap": ((), {"spot": None}),
    "InvalidPlace": (("value",), {}),
    "InvalidNumber": (("value",), {}),
    "MissingMark": (("place",), {}),
    "InvalidWord": ((), {"spot": None}),
    "InvalidAnswer": (("part",), {}),
    "TooFew": (("reason",), {}),
    "InvalidRank": (("value",), {}),
    "LimitExceeded": (("limit",), {}),
    "Lost": (("pair",), {}),
    "NothingToUndo": ((), {}),
    "ParseError": (("line", "word"), {}),
}


def names_of(name):
    needed, others = PARAMETERS[name]
    return needed + tuple(others)


class ErrorsTest(QuickCase):

    def test_the_base_class(self):
        self.assertEqual(errors.MarkroundsError.__bases__, (ValueError,))

    def test_the_classes_and_their_base(self):
        self.assertEqual(len(PARAMETERS), 15)
        for name in PARAMETERS:
            with self.subTest(name):
                self.assertEqual(getattr(errors, name).__bases__, (errors.MarkroundsError,))

    def test_each_class_is_defined_in_the_module(self):
        found = {name for name, value in vars(errors).items() if inspect.isclass(value)}
        self.assertEqual(found, {"MarkroundsError"} | set(PARAMETERS))
        for name in found:
            with self.subTest(name):
                self.assertEqual(getattr(errors, name).__module__, "markrounds.errors")

    def test_fields_by_position_and_by_name(self):
        for name in PARAMETERS:
            with self.subTest(name):
                error = getattr(errors, name)
                given = [object() for _ in names_of(name)]
                named = dict(zip(names_of(name), given))
                for made in (error(*given), error(**named)):
                    for field, value in named.items():
                        self.assertIs(getattr(made, field), value)
                    self.assertEqual(set(vars(made)), set(named))

    def test_fields_that_may_be_left_out(self):
        for name, (needed, others) in PARAMETERS.items():
            with self.subTest(name):
                made = getattr(errors, name)(*needed)
                for field, value in others.items():
                    self.assertIs(getattr(made, field), value)

    def test_wrong_numbers_of_arguments(self):
        for name, (needed, others) in PARAMETERS.items():
            with self.subTest(name):
                error = getattr(errors, name)
                too_many = [0] * (len(needed) + len(others) + 1)
                self.caught(TypeError, error, *too_many)
                if needed:
                    self.caught(TypeError, error, *too_many[:len(needed) - 1])

    def test_they_are_raised_and_caught_as_value_errors(self):
        for name in PARAMETERS:
            with self.subTest(name):
                made = getattr(errors, name)(*names_of(name))
                for base in (errors.MarkroundsError, ValueError):
                    with self.assertRaises(base) as context:
                        raise made
                    self.assertIs(context.exception, made)

    def test_fields_hold_the_very_objects_of_every_kind(self):
        for value in no_integers() + [HUGE]:
            self.assertTrue(errors.OtherRow(value).value is value)
            self.assertTrue(errors.InvalidPlace(value).value is value)
            self.assertTrue(errors.InvalidNumber(value).value is value)
            self.assertTrue(errors.InvalidRank(value).value is value)

    def test_texts_end_quickly_whatever_the_fields_are(self):
        for name in PARAMETERS:
            for value in (shared_parts(60), Touchy(), HUGE):
                made = getattr(errors, name)(*[value for _ in names_of(name)])
                self.assertTrue(str(made))
                self.assertIn(name, repr(made))

    def test_copies_have_the_same_fields(self):
        for name in PARAMETERS:
            with self.subTest(name):
                made = getattr(errors, name)(*names_of(name))
                for other in (copy.copy(made), pickle.loads(pickle.dumps(made))):
                    self.assertIs(type(other), type(made))
                    self.assertEqual(vars(other), vars(made))
