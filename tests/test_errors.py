"""Point [2]: the errors, and under what each one stands."""

import unittest

from oddities import oddities
from steadycalls import errors

STORE_ERRORS = {
    "BadLabel": "label", "BadCell": "index", "BadPart": "part", "BadTerm": "term",
    "BadFunction": "index", "BadState": "name", "BadArguments": "arguments", "BadTick": "value",
    "BadCall": "index", "BadTree": "tree", "BadOutput": "index", "BadOrder": "index",
    "BadMark": "index", "BadTable": "index", "BadPlan": "plan", "BadToken": "token",
    "BadText": "index", "BadLine": "line", "BadChance": "index", "BadMove": "index",
    "BadRun": "index", "BadMoment": "moment",
}
OTHERS = {
    "UnknownName": ("name", KeyError),
    "TooMany": ("limit", OverflowError),
    "NothingToUndo": ("name", RuntimeError),
}


class TestErrors(unittest.TestCase):
    def test_each_keeps_its_argument(self):
        attributes = {**STORE_ERRORS, **{name: told[0] for name, told in OTHERS.items()}}
        for name, attribute in attributes.items():
            kind = getattr(errors, name)
            for value in [7, "f"] + oddities():
                self.assertIs(getattr(kind(value), attribute), value)
                self.assertIs(getattr(kind(**{attribute: value}), attribute), value)
            self.assertRaises(TypeError, kind)
            self.assertRaises(TypeError, kind, 1, 2)

    def test_all_can_be_shown_whatever_they_keep(self):
        for name in list(STORE_ERRORS) + list(OTHERS):
            for value in oddities():
                self.assertIsInstance(str(getattr(errors, name)(value)), str)

    def test_store_errors_stand_under_store_error_alone(self):
        self.assertEqual(errors.StoreError.__bases__, (ValueError,))
        for name in STORE_ERRORS:
            self.assertEqual(getattr(errors, name).__bases__, (errors.StoreError,))

    def test_others_stand_under_one_of_python(self):
        for name, (_, base) in OTHERS.items():
            self.assertEqual(getattr(errors, name).__bases__, (base,))

    def test_there_is_no_other_error(self):
        here = {name for name, value in vars(errors).items() if isinstance(value, type)}
        self.assertEqual(here, {"StoreError", *STORE_ERRORS, *OTHERS})

    def test_they_are_defined_in_their_file(self):
        for name in ["StoreError", *STORE_ERRORS, *OTHERS]:
            self.assertEqual(getattr(errors, name).__module__, "steadycalls.errors")
