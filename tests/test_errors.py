"""[2], [83]: the errors."""

import inspect

from allinputs import errors
from allinputs.errors import SheetError
from tests.helper import Case

FIELDS = {
    "BadValue": ["value"], "NoDivisor": [], "NotTold": [], "TooHigh": ["most"], "TooMany": ["most"],
    "NotAFormula": ["at"], "NotANumber": ["at"], "NotAFormat": ["at"], "NotAName": ["name"],
    "OffGrid": ["row", "column"], "Unknown": ["name"], "Taken": ["name"], "BadFile": ["line", "at"],
    "BadPromise": ["promise"], "Broken": ["promise", "where"], "NotMade": ["promise"], "NothingToUndo": [],
    "NothingToRedo": [], "Turns": ["poly"],
}

ANY = [None, True, 0, -7, 1.5, "x", [1, [2]], {"a": 1}, object(), ("a",), ValueError]


class Errors(Case):
    def test_all_of_them_are_there_and_no_others(self):
        there = {name for name, value in vars(errors).items() if inspect.isclass(value)}
        self.assertEqual(there, set(FIELDS) | {"SheetError"})

    def test_classes_derive_directly(self):
        self.assertEqual(SheetError.__bases__, (ValueError,))
        for name in FIELDS:
            error = getattr(errors, name)
            self.assertEqual(error.__bases__, (SheetError,), name)
            self.assertEqual(error.__module__, "allinputs.errors")

    def test_made_by_position_and_by_name(self):
        for name, fields in FIELDS.items():
            error = getattr(errors, name)
            for shift in range(len(ANY)):
                values = [ANY[(shift + at) % len(ANY)] for at in range(len(fields))]
                named = dict(zip(fields, values))
                made = [error(*values), error(**named)]
                if len(fields) == 2:
                    made.append(error(values[0], **{fields[1]: values[1]}))
                for one in made:
                    self.assertEqual(list(vars(one)), fields)
                    for field, value in named.items():
                        self.assertIs(getattr(one, field), value)

    def test_made_without_a_field_or_with_one_too_many(self):
        for name, fields in FIELDS.items():
            if fields:
                with self.assertRaises(TypeError):
                    getattr(errors, name)()
                with self.assertRaises(TypeError):
                    getattr(errors, name)(*fields, 1)
                with self.assertRaises(TypeError):
                    getattr(errors, name)(other=1)

    def test_of_no_other_class(self):
        for name, fields in FIELDS.items():
            one = getattr(errors, name)(*fields)
            self.assertIsInstance(one, ValueError)
            for other in FIELDS:
                self.assertEqual(isinstance(one, getattr(errors, other)), other == name)

    def test_caught_as_a_sheet_error(self):
        for name, fields in FIELDS.items():
            for kind in (SheetError, ValueError, getattr(errors, name)):
                try:
                    raise getattr(errors, name)(*fields)
                except kind as caught:
                    self.assertEqual(list(vars(caught).values()), fields)
        with self.assertRaises(SheetError):
            raise SheetError()

    def test_equal_to_nothing_but_itself(self):
        for name, fields in FIELDS.items():
            one = getattr(errors, name)(*fields)
            self.assertTrue(one == one)
            self.assertFalse(one == getattr(errors, name)(*fields))
