"""[20], [4]: the error classes and their fields."""

import unittest

from sharedpipe import errors
from values import nested, things

FIELDS = {
    "Wrong": "place", "TooMany": "limit", "Overdrawn": "many", "NotPassed": "many", "Twice": "name",
    "Unknown": "name", "Ring": "name", "BadGuide": "name", "Narrow": "name", "NoStep": None,
    "Unready": "stream", "NoCredit": "name", "Nothing": None, "Broken": "at", "BadSlow": None,
    "BadFrame": None, "IsSlow": "stream", "Unlike": None, "NoDeed": None, "Full": "limit",
    "Refused": "deed", "NoEntry": "many", "NoText": None, "NoCommand": None,
}


class Errors(unittest.TestCase):
    def test_each_class_is_directly_under_pipe_error(self):
        self.assertEqual(errors.PipeError.__bases__, (ValueError,))
        for name in FIELDS:
            self.assertEqual(getattr(errors, name).__bases__, (errors.PipeError,), name)

    def test_there_are_no_other_errors(self):
        found = {name for name, thing in vars(errors).items()
                 if isinstance(thing, type) and issubclass(thing, Exception)}
        self.assertEqual(found, set(FIELDS) | {"PipeError"})

    def test_classes_are_defined_in_errors(self):
        for name in FIELDS:
            self.assertEqual(getattr(errors, name).__module__, "sharedpipe.errors")

    def test_a_field_is_the_very_object(self):
        for name, field in FIELDS.items():
            if field is not None:
                for thing in [*things(), nested(20), {"a": [1]}, 5, "abc"]:
                    error = getattr(errors, name)(thing)
                    self.assertIs(getattr(error, field), thing, name)
                    self.assertEqual(list(vars(error)), [field])

    def test_a_field_follows_its_object(self):
        deed = [1]
        error = errors.Refused(deed)
        deed.append(2)
        self.assertEqual(error.deed, [1, 2])

    def test_arguments_by_keyword(self):
        for name, field in FIELDS.items():
            if field is not None:
                self.assertEqual(getattr(getattr(errors, name)(**{field: 7}), field), 7)

    def test_numbers_of_arguments(self):
        for name, field in FIELDS.items():
            with self.assertRaises(TypeError):
                getattr(errors, name)(*[1] * (1 if field is None else 2))
            if field is not None:
                with self.assertRaises(TypeError):
                    getattr(errors, name)()

    def test_errors_without_fields(self):
        for name, field in FIELDS.items():
            if field is None:
                self.assertEqual(vars(getattr(errors, name)()), {})

    def test_pipe_error_of_any_values(self):
        for thing in things():
            self.assertIsInstance(errors.PipeError(thing), ValueError)
            self.assertIsInstance(errors.PipeError(thing, thing), ValueError)
        self.assertIsInstance(errors.PipeError(), ValueError)

    def test_errors_can_be_raised_and_caught(self):
        for name, field in FIELDS.items():
            error = getattr(errors, name)() if field is None else getattr(errors, name)([1])
            with self.assertRaises(errors.PipeError) as caught:
                raise error
            self.assertIs(caught.exception, error)
            self.assertIsInstance(str(error), str)
