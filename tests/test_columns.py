"""Point 10, and point 2 as far as it speaks of columns: Column."""

import unittest

from partwise.columns import Column, Schema
from partwise.errors import InvalidKind, InvalidName
from tests.samples import ANY_VALUES, RESERVED, EqualToAll, Kept, check_equal, raised

NAMES = ["a", "z", "ab", "abcdefgh", "zzzzzzzz", "number", "word", "name", "self", "nulls"]

# What no column is called, besides the reserved words.
WRONG_NAMES = [
    "", "abcdefghi", "A", "aB", "Abc", "abcdefgH", "1", "a1", "1a", " ", " a", "a ", "a b",
    "a\n", "\na", "abcdefg\n", "\nabcdefg", "abcdefgh\n", "\n", "_", "a_b", "a-b", "a.b", "`",
    "{", "@", "[", "~", "'a", "$1", "a" * 5000,
    None, True, False, 0, 1, -7, 10 ** 60 - 1, (), ("a",), ("a", "b"), [], ["a"], {}, {"a": 1},
]

WRONG_KINDS = [
    "", "numbers", "words", "Number", "WORD", "number ", " word", "number\n", "\nword", "int",
    "n", "number word", None, True, False, 0, 1, -1, (), ("number",), ("number", "word"),
    [], ["word"], {}, {"number": 1},
]

BIG = 10 ** 30
NUMBERS = [0, 1, -1, 60, BIG, -BIG, BIG - 1, 1 - BIG]
WORDS = ["a", "z", "abcdefgh", "zzzzzzzz"] + RESERVED
NO_VALUES = [
    True, False, BIG + 1, -BIG - 1, 10 ** 60 - 1, 1 - 10 ** 60, "", " ", "abcdefghi", "A", "aB",
    "1", "a1", "a ", " a", "a b", "a\n", "\na", "abcdefg\n", "abcdefgh\n", "\n", "`", "{",
    (), (1,), ("a",), (None,), [], [1], ["a"], {}, {1: 2}, {"a": 1},
]


def all_columns():
    """A column of each kind, required or not."""
    return [
        Column("a", kind, is_required=is_required)
        for kind in ("number", "word")
        for is_required in (False, True)
    ]


class PropertiesTest(unittest.TestCase):
    def test_each_kind_required_or_not(self):
        for name in NAMES:
            for kind in ("number", "word"):
                for is_required in (False, True):
                    column = Column(name, kind, is_required=is_required)
                    self.assertEqual(column.name, name)
                    self.assertIs(type(column.name), str)
                    self.assertEqual(column.kind, kind)
                    self.assertIs(type(column.kind), str)
                    self.assertIs(column.is_required, is_required)

    def test_not_required_by_default(self):
        self.assertIs(Column("a", "number").is_required, False)
        self.assertIs(Column("a", "word").is_required, False)

    def test_arguments_by_name(self):
        column = Column(is_required=True, kind="word", name="b")
        self.assertEqual((column.name, column.kind), ("b", "word"))
        self.assertIs(column.is_required, True)
        self.assertEqual(Column("b", kind="number").kind, "number")

    def test_required_by_name_only(self):
        self.assertIs(type(raised(lambda: Column("a", "number", True))), TypeError)

    def test_properties_are_not_assigned(self):
        column = Column("a", "number")
        for name in ("name", "kind", "is_required"):
            with self.assertRaises(AttributeError):
                setattr(column, name, "b")
        self.assertEqual(column, Column("a", "number"))


class ErrorsTest(unittest.TestCase):
    def check_raised(self, cls, value, *args, **named):
        kept = Kept(value, args, named)
        error = raised(lambda: Column(*args, **named))
        self.assertIs(type(error), cls, (args, named))
        self.assertIs(error.value, value)
        self.assertTrue(kept.is_kept())

    def test_reserved_words_as_names(self):
        self.assertEqual(len(RESERVED), 17)
        for name in RESERVED:
            self.check_raised(InvalidName, name, name, "number")
            self.check_raised(InvalidName, name, name, "word", is_required=True)
            self.check_raised(InvalidName, name, kind="word", name=name)

    def test_wrong_names(self):
        for name in WRONG_NAMES:
            self.check_raised(InvalidName, name, name, "number")
            self.check_raised(InvalidName, name, name, "word", is_required=True)
            self.check_raised(InvalidName, name, kind="word", name=name)

    def test_wrong_kinds(self):
        for kind in WRONG_KINDS:
            self.check_raised(InvalidKind, kind, "a", kind)
            self.check_raised(InvalidKind, kind, "a", kind, is_required=True)
            self.check_raised(InvalidKind, kind, kind=kind, name="abcdefgh")

    def test_wrong_name_before_wrong_kind(self):
        for name in WRONG_NAMES + RESERVED:
            for kind in WRONG_KINDS:
                self.check_raised(InvalidName, name, name, kind)
                self.check_raised(InvalidName, name, kind=kind, name=name)

    def test_any_value_as_name_or_kind(self):
        for value in ANY_VALUES:
            if value not in ("a", "name", "number", "word"):
                self.check_raised(InvalidName, value, value, "number")
            if value not in ("number", "word"):
                self.check_raised(InvalidKind, value, "a", value)


class IsValueTest(unittest.TestCase):
    def check_values(self, column, values, is_value):
        for value in values:
            kept = Kept(value)
            self.assertIs(column.is_value(value), is_value, value)
            self.assertIs(column.is_value(value=value), is_value, value)
            self.assertTrue(kept.is_kept())

    def test_number_columns(self):
        for is_required in (False, True):
            column = Column("a", "number", is_required=is_required)
            self.check_values(column, NUMBERS, True)
            self.check_values(column, WORDS + NO_VALUES, False)

    def test_word_columns(self):
        for is_required in (False, True):
            column = Column("a", "word", is_required=is_required)
            self.check_values(column, WORDS, True)
            self.check_values(column, NUMBERS + NO_VALUES, False)

    def test_none(self):
        for column in all_columns():
            self.check_values(column, [None], not column.is_required)

    def test_any_value(self):
        for value in ANY_VALUES:
            for column in all_columns():
                self.assertIn(column.is_value(value), (False, True))
                self.assertIs(type(column.is_value(value)), bool)

    def test_column_is_not_changed(self):
        for column in all_columns():
            before = Column("a", column.kind, is_required=column.is_required)
            for value in ANY_VALUES:
                column.is_value(value)
            self.assertEqual(column, before)


class EqualTest(unittest.TestCase):
    def test_equal(self):
        for one, other in zip(all_columns(), all_columns()):
            check_equal(self, one, one, True)
            check_equal(self, one, other, True)
        check_equal(self, Column("a", "word"), Column("a", "word", is_required=False), True)

    def test_one_property_differs(self):
        one = Column("a", "number")
        check_equal(self, one, Column("b", "number"), False)
        check_equal(self, one, Column("aa", "number"), False)
        check_equal(self, one, Column("a", "word"), False)
        check_equal(self, one, Column("a", "number", is_required=True), False)

    def test_all_columns_differ(self):
        columns = all_columns()
        for at, one in enumerate(columns):
            for other_at, other in enumerate(columns):
                check_equal(self, one, other, at == other_at)

    def test_values_of_other_kinds(self):
        for column in all_columns():
            shape = (column.name, column.kind, column.is_required)
            for value in ANY_VALUES + [shape, list(shape), Schema(column), (column,), [column]]:
                check_equal(self, column, value, False)

    def test_other_object_that_is_equal_to_all(self):
        self.assertIs(Column("a", "number") == EqualToAll(), False)
        self.assertIs(Column("a", "number") != EqualToAll(), True)


if __name__ == "__main__":
    unittest.main()
