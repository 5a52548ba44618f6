"""The errors: their fields, and the class that each is directly under."""

import inspect
import unittest

from countsheld import errors
from odd import odd_values

FIELDS = {
    "CountsheldError": {
        "BadWord": ["word"], "BadNumber": ["number"], "BadCounts": ["at"], "BadRule": ["what"],
        "BadRules": ["what"], "BadDoor": ["at"], "Unfit": ["door", "line"], "BadDesk": ["what"],
        "BadText": ["at"], "NotLoose": ["kind"], "Named": ["row"], "Full": ["owner"],
        "NoPick": ["pick"], "Broken": ["rules"], "BadHistory": ["at"], "BadStanding": ["standing"],
        "BadWay": ["at"], "NoWay": ["standing"], "NotKept": [], "TooMany": ["what"],
    },
    "LookupError": {
        "NoDoor": ["name"], "NoBegin": ["index"], "NoOwner": ["owner"], "NoRow": ["row"],
        "NoRule": ["rule"],
    },
    "ZeroDivisionError": {"NoDivisor": ["word"]},
    "RuntimeError": {
        "Waits": ["owner"], "Refused": ["door", "line", "why"], "Over": ["number"],
        "Busy": ["owner"],
    },
}
BASES = {
    "CountsheldError": errors.CountsheldError, "LookupError": LookupError,
    "ZeroDivisionError": ZeroDivisionError, "RuntimeError": RuntimeError,
}


class TestErrors(unittest.TestCase):

    def listed(self):
        for base, names in FIELDS.items():
            for name, fields in names.items():
                yield BASES[base], getattr(errors, name), fields

    def test_all_are_there_and_no_others(self):
        here = [name for name, one in vars(errors).items() if inspect.isclass(one)]
        listed = [name for names in FIELDS.values() for name in names]
        self.assertEqual(sorted(here), sorted(listed + ["CountsheldError"]))

    def test_directly_under(self):
        self.assertEqual(errors.CountsheldError.__bases__, (ValueError,))
        for base, error, _ in self.listed():
            self.assertEqual(error.__bases__, (base,), error)

    def test_fields_by_position_in_order(self):
        for _, error, fields in self.listed():
            made = error(*range(len(fields)))
            self.assertEqual([getattr(made, field) for field in fields], list(range(len(fields))))

    def test_fields_by_name(self):
        for _, error, fields in self.listed():
            made = error(**{field: field for field in fields})
            self.assertEqual([getattr(made, field) for field in fields], fields)

    def test_fields_are_any_values(self):
        for _, error, fields in self.listed():
            for value in odd_values():
                made = error(*[value for _ in fields])
                for field in fields:
                    self.assertIs(getattr(made, field), value)

    def test_wrong_many_fields(self):
        for _, error, fields in self.listed():
            if fields:
                with self.assertRaises(TypeError):
                    error()

    def test_can_be_raised(self):
        for base, error, fields in self.listed():
            with self.assertRaises(base):
                raise error(*fields)
