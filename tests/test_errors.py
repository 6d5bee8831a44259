"""[0.3] and the heading cutnotes/errors.py."""

import inspect
import unittest

from cutnotes import errors
from common import nested, odd_numbers

FIELDS = {
    "BadForest": ("part", "at"), "NoPlace": (), "NoNumber": (), "NoNotes": (), "NoKeeper": (),
    "NoCuts": (), "NoPlan": (), "TooMany": ("most",), "NoBudgets": (), "NoRow": (), "NoPrices": (),
    "NoFloor": (), "NoNumbers": (), "NoTable": (), "NoAnswer": ("place",), "NoAmounts": (),
    "NoDeeds": (), "NoTurns": (), "NoChanges": (), "NoFlag": (), "NoForest": (), "NoMark": (),
    "Stopped": (), "NoVault": (), "NotRecovered": (), "NoHistory": (), "BadText": ("line",),
}


class Errors(unittest.TestCase):

    def test_just_these_classes(self):
        found = {name for name, thing in vars(errors).items() if inspect.isclass(thing)}
        self.assertEqual(found, set(FIELDS) | {"NoteError"})

    def test_each_derives_directly(self):
        self.assertEqual(errors.NoteError.__bases__, (ValueError,))
        for name in FIELDS:
            self.assertEqual(getattr(errors, name).__bases__, (errors.NoteError,), name)

    def test_each_is_made_with_just_its_fields(self):
        for name, fields in FIELDS.items():
            parameters = list(inspect.signature(getattr(errors, name)).parameters)
            self.assertEqual(tuple(parameters), fields, name)
            told = list(range(len(fields)))
            with self.assertRaises(TypeError):
                getattr(errors, name)(*told, "more")

    def test_fields_are_kept_whatever_is_passed(self):
        deep = nested(900, "tuple")
        wide = [[10 ** 6000], {"a": [deep]}]
        for name, fields in FIELDS.items():
            for thing in odd_numbers() + [deep, wide, 10 ** 6000, 1.5]:
                for at, field in enumerate(fields):
                    told = list(range(len(fields)))
                    told[at] = thing
                    error = getattr(errors, name)(*told)
                    self.assertIs(getattr(error, field), thing)
                    for other, kept in enumerate(fields):
                        if other != at:
                            self.assertEqual(getattr(error, kept), other)

    def test_each_can_be_raised_and_told(self):
        for name, fields in FIELDS.items():
            with self.assertRaises(errors.NoteError) as caught:
                raise getattr(errors, name)(*[nested(40, "list")] * len(fields))
            self.assertIsInstance(str(caught.exception), str)


if __name__ == "__main__":
    unittest.main()
