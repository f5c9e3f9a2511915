"""The errors and their fields."""

from evenends import errors
from tests.samples import ODD, Case

FIELDS = {
    "NetError": (ValueError, ()),
    "MissingError": (LookupError, ()),
    "InvalidVector": (errors.NetError, ()),
    "InvalidBook": (errors.NetError, ("reason",)),
    "InvalidPart": (errors.NetError, ("reason",)),
    "InvalidNet": (errors.NetError, ("reason", "name")),
    "InvalidCourse": (errors.NetError, ("reason",)),
    "InvalidWeighting": (errors.NetError, ("reason",)),
    "InvalidDeed": (errors.NetError, ("reason",)),
    "InvalidItem": (errors.NetError, ("index",)),
    "InvalidCosts": (errors.NetError, ("name",)),
    "InvalidCount": (errors.NetError, ("name",)),
    "NotComparable": (errors.NetError, ("reason",)),
    "InvalidText": (errors.NetError, ("line", "word")),
    "UnknownCommand": (errors.NetError, ("word",)),
    "UnknownName": (errors.MissingError, ("name",)),
    "NoItem": (errors.MissingError, ("number",)),
    "TooMany": (OverflowError, ("limit",)),
    "NothingToUndo": (IndexError, ("count",)),
}


class TestErrors(Case):
    def test_base_classes(self):
        for name, (base, _) in FIELDS.items():
            self.assertEqual(getattr(errors, name).__bases__, (base,), name)

    def test_no_other_classes(self):
        told = [name for name, value in vars(errors).items() if isinstance(value, type)]
        self.assertEqual(sorted(told), sorted(FIELDS))

    def test_fields_by_place(self):
        for name, (_, fields) in FIELDS.items():
            values = [f"value of {field}" for field in fields]
            error = getattr(errors, name)(*values)
            self.assertEqual(vars(error), dict(zip(fields, values)), name)

    def test_fields_by_name(self):
        for name, (_, fields) in FIELDS.items():
            values = {field: f"value of {field}" for field in reversed(fields)}
            error = getattr(errors, name)(**values)
            self.assertEqual(vars(error), values, name)

    def test_fields_are_any_values(self):
        for name, (_, fields) in FIELDS.items():
            for value in ODD:
                error = getattr(errors, name)(*[value for _ in fields])
                for field in fields:
                    self.assertIs(getattr(error, field), value)

    def test_they_are_raised_and_caught(self):
        for name, (base, fields) in FIELDS.items():
            with self.assertRaises(base):
                raise getattr(errors, name)(*fields)
