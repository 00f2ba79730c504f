"""Section 13: the errors."""

import unittest

from partwise import errors
from tests.samples import ANY_VALUES, Kept, raised

LISTED = {
    ValueError: """
        InvalidName(value) InvalidKind(value) InvalidSchema() InvalidText(index)
        InvalidRow(value) InvalidParameters() InvalidBound() InvalidCut()
        InvalidKey() InvalidChange(column) InvalidLimit(value) InvalidJoin()
        InvalidPieces() InvalidStatement() OtherSchema() SchemaDiffers()
        NotCut(table) NotTop(table) NotPart(table) NotLeaf(table) NotSiblings()
        OwnChecks(table) HasKeys(table) TableExists(table) CheckExists(label)
        KeyExists() KeyTooSmall(column) Overlap(part) Outside(key) Gap(key)
        NotHeld(row) InDefault(row) CheckFails(label,row) DuplicateKey(row)
    """,
    KeyError: "UnknownColumn(value) UnknownTable(value) UnknownCheck(label) UnknownKey()",
    LookupError: "NoPart(row) NothingToUndo() NothingToRedo()",
    OverflowError: "TooMany(limit) LeafFull(table)",
    RuntimeError: "Stale()",
}


def listed_errors():
    """Tuples (name, Python's error, list of the fields)."""
    found = []
    for base, text in LISTED.items():
        for entry in text.split():
            name, fields = entry.rstrip(")").split("(")
            found.append((name, base, fields.split(",") if fields else []))
    return found


def samples_for(fields):
    """Tuples of values for the fields; every one of ANY_VALUES for each field."""
    if not fields:
        return [()]
    if len(fields) == 1:
        return [(value,) for value in ANY_VALUES]
    return list(zip(ANY_VALUES, reversed(ANY_VALUES)))


class ErrorsTest(unittest.TestCase):
    def for_each_error(self, check):
        for name, base, fields in listed_errors():
            with self.subTest(name):
                check(getattr(errors, name), base, fields)

    def check_fields(self, error, cls, fields, values):
        self.assertIs(type(error), cls)
        self.assertEqual(sorted(vars(error)), sorted(fields))
        for field, value in zip(fields, values):
            self.assertIs(getattr(error, field), value)

    def test_count(self):
        self.assertEqual(len(listed_errors()), 44)

    def test_no_other_class(self):
        found = [name for name, value in vars(errors).items() if isinstance(value, type)]
        self.assertEqual(sorted(found), sorted([name for name, _, _ in listed_errors()]))

    def test_directly_below_its_python_error(self):
        def check(cls, base, _):
            self.assertEqual(cls.__bases__, (base,))

        self.for_each_error(check)

    def test_not_of_another_error_of_the_package(self):
        classes = [getattr(errors, name) for name, _, _ in listed_errors()]

        def check(cls, *_):
            self.assertEqual([other for other in classes if issubclass(cls, other)], [cls])

        self.for_each_error(check)

    def test_defined_in_the_file(self):
        def check(cls, *_):
            self.assertEqual(cls.__module__, "partwise.errors")

        self.for_each_error(check)

    def test_fields_by_position(self):
        def check(cls, _, fields):
            for values in samples_for(fields):
                self.check_fields(cls(*values), cls, fields, values)

        self.for_each_error(check)

    def test_fields_by_name(self):
        def check(cls, _, fields):
            for values in samples_for(fields):
                named = dict(reversed(list(zip(fields, values))))
                self.check_fields(cls(**named), cls, fields, values)

        self.for_each_error(check)

    def test_fields_by_position_and_name(self):
        row = (1, None)
        error = errors.CheckFails("a", row=row)
        self.check_fields(error, errors.CheckFails, ["label", "row"], ("a", row))

    def test_raised_and_caught_as_python_error(self):
        def check(cls, base, fields):
            for values in samples_for(fields):
                with self.assertRaises(base) as caught:
                    raise cls(*values)
                self.check_fields(caught.exception, cls, fields, values)

        self.for_each_error(check)

    def test_other_numbers_or_names_of_fields(self):
        def check(cls, _, fields):
            values = ["a"] * len(fields)
            self.assertIs(type(raised(lambda: cls(*values, "a"))), TypeError)
            self.assertIs(type(raised(lambda: cls(*values, other="a"))), TypeError)
            if fields:
                self.assertIs(type(raised(lambda: cls(*values[1:]))), TypeError)

        self.for_each_error(check)

    def test_values_are_not_changed(self):
        def check(cls, _, fields):
            for values in samples_for(fields):
                kept = Kept(*values)
                cls(*values)
                self.assertTrue(kept.is_kept())

        self.for_each_error(check)


if __name__ == "__main__":
    unittest.main()
