"""Point 11, and point 2 as far as it speaks of schemas: Schema."""

import unittest

from partwise.columns import Column, Schema
from partwise.errors import InvalidSchema, UnknownColumn
from tests.samples import ANY_VALUES, RESERVED, EqualToAll, Kept, check_equal, raised

COLUMNS = (
    Column("a", "number", is_required=True),
    Column("b", "word"),
    Column("c", "number"),
    Column("abcdefgh", "word", is_required=True),
    Column("e", "word"),
)
NAMES = ("a", "b", "c", "abcdefgh", "e")
ROW = (1, "x", -(10 ** 30), "and", None)


def properties(column):
    return (column.name, column.kind, column.is_required)


def all_schemas():
    """Schemas of one to five columns."""
    return [Schema(*COLUMNS[:count]) for count in range(1, 6)]


class PropertiesTest(unittest.TestCase):
    def test_one_to_five_columns(self):
        for count in range(1, 6):
            schema = Schema(*COLUMNS[:count])
            self.assertIs(type(schema.columns), tuple)
            self.assertEqual(schema.columns, COLUMNS[:count])
            self.assertIs(type(schema.names), tuple)
            self.assertEqual(schema.names, NAMES[:count])
            self.assertIs(type(len(schema)), int)
            self.assertEqual(len(schema), count)

    def test_order_is_kept(self):
        schema = Schema(*reversed(COLUMNS))
        self.assertEqual(schema.names, tuple(reversed(NAMES)))
        self.assertEqual(schema.columns, tuple(reversed(COLUMNS)))

    def test_one_column_in_several_schemas(self):
        self.assertEqual(Schema(COLUMNS[0]).columns[0], Schema(COLUMNS[1], COLUMNS[0]).columns[1])

    def test_properties_are_not_assigned(self):
        schema = Schema(*COLUMNS)
        for name in ("columns", "names"):
            with self.assertRaises(AttributeError):
                setattr(schema, name, ())
        self.assertEqual(schema, Schema(*COLUMNS))

    def test_passed_columns_are_not_changed(self):
        columns = list(COLUMNS)
        before = [properties(column) for column in columns]
        schema = Schema(*columns)
        raised(lambda: Schema(*columns, columns[0]))
        self.assertEqual([properties(column) for column in columns], before)
        columns.pop()
        self.assertEqual(schema.names, NAMES)


class ErrorsTest(unittest.TestCase):
    def check_invalid(self, *columns):
        error = raised(lambda: Schema(*columns))
        self.assertIs(type(error), InvalidSchema, columns)
        self.assertEqual(vars(error), {})

    def test_no_column(self):
        self.check_invalid()

    def test_more_than_five_columns(self):
        six = COLUMNS + (Column("f", "number"),)
        self.check_invalid(*six)
        self.check_invalid(*six, Column("g", "number"))

    def test_two_columns_of_one_name(self):
        a = COLUMNS[0]
        self.check_invalid(a, a)
        self.check_invalid(a, Column("a", "number", is_required=True))
        self.check_invalid(a, Column("a", "number"))
        self.check_invalid(a, Column("a", "word", is_required=True))
        self.check_invalid(Column("b", "word"), a, Column("c", "word"), Column("a", "word"))
        self.check_invalid(*COLUMNS[:4], Column("a", "word"))

    def test_lists_and_tuples_of_columns(self):
        self.check_invalid(COLUMNS)
        self.check_invalid(list(COLUMNS))
        self.check_invalid((COLUMNS[0],))
        self.check_invalid([COLUMNS[0]])
        self.check_invalid([])
        self.check_invalid(COLUMNS[0], [COLUMNS[1]])
        self.check_invalid((COLUMNS[1],), COLUMNS[0])
        self.check_invalid(COLUMNS[:2], COLUMNS[2:])

    def test_values_of_other_kinds(self):
        for value in ANY_VALUES + [Schema(COLUMNS[0]), {"a": COLUMNS[0]}]:
            self.check_invalid(value)
            self.check_invalid(value, value)
            self.check_invalid(COLUMNS[0], value)
            self.check_invalid(value, *COLUMNS[:4])
            self.check_invalid(*COLUMNS[:4], value)
            self.check_invalid(*COLUMNS, value)

    def test_values_are_not_changed(self):
        for value in ANY_VALUES:
            kept = Kept(value)
            self.check_invalid(value)
            self.assertTrue(kept.is_kept())

    def test_no_arguments_by_name(self):
        self.assertIs(type(raised(lambda: Schema(columns=COLUMNS))), TypeError)


class ItemTest(unittest.TestCase):
    def check_unknown(self, schema, value):
        kept = Kept(value)
        error = raised(lambda: schema[value])
        self.assertIs(type(error), UnknownColumn, value)
        self.assertIs(error.value, value)
        self.assertTrue(kept.is_kept())

    def test_each_column(self):
        for schema in all_schemas():
            for column in COLUMNS[:len(schema)]:
                self.assertIs(type(schema[column.name]), Column)
                self.assertEqual(schema[column.name], column)

    def test_other_names(self):
        for schema in all_schemas():
            for name in NAMES[len(schema):] + ("f", "z", "aa", "abcdefg", "abcdefghi"):
                self.check_unknown(schema, name)

    def test_other_texts(self):
        for text in RESERVED + ["", "A", " ", "a ", " a", "a\n", "\na", "a b", "1", "number"]:
            self.check_unknown(Schema(*COLUMNS), text)

    def test_values_of_other_kinds(self):
        for schema in all_schemas():
            for value in ANY_VALUES:
                if value != "a":
                    self.check_unknown(schema, value)
            for value in (0, -1, 4, NAMES, list(NAMES), ("a",), ["a"], {"a": "a"}):
                self.check_unknown(schema, value)

    def test_schema_is_not_changed(self):
        schema = Schema(*COLUMNS)
        schema["a"]
        raised(lambda: schema["z"])
        self.assertEqual(schema, Schema(*COLUMNS))

    def test_is_not_iterated_over(self):
        self.assertIs(type(raised(lambda: list(Schema(*COLUMNS)))), TypeError)


class IsRowTest(unittest.TestCase):
    def check_row(self, schema, value, is_row):
        kept = Kept(value)
        self.assertIs(schema.is_row(value), is_row, value)
        self.assertIs(schema.is_row(value=value), is_row, value)
        self.assertTrue(kept.is_kept())

    def test_right_tuples(self):
        for schema in all_schemas():
            self.check_row(schema, ROW[:len(schema)], True)
        schema = Schema(*COLUMNS)
        self.check_row(schema, (0, None, None, "z", None), True)
        self.check_row(schema, (-1, "abcdefgh", 10 ** 30, "limit", "q"), True)

    def test_lengths(self):
        for schema in all_schemas():
            for count in range(7):
                row = (ROW + (None, None))[:count]
                self.check_row(schema, row, count == len(schema))

    def test_lists(self):
        for schema in all_schemas():
            self.check_row(schema, list(ROW[:len(schema)]), False)

    def test_values_without_tuple(self):
        self.check_row(Schema(Column("a", "number")), 1, False)
        self.check_row(Schema(Column("a", "word")), "x", False)
        self.check_row(Schema(Column("a", "word"), Column("b", "word")), "xy", False)
        self.check_row(Schema(Column("a", "number")), None, False)
        self.check_row(Schema(Column("a", "word")), {"x": 1}, False)

    def test_nested_tuple(self):
        self.check_row(Schema(Column("a", "number")), ((1,),), False)

    def test_one_wrong_value(self):
        wrong = [True, False, 10 ** 30 + 1, -(10 ** 30) - 1, "", "A", "x\n", "abcdefghi", (), [], {}]
        for at, column in enumerate(COLUMNS):
            other_kind = "x" if column.kind == "number" else 1
            for value in wrong + [other_kind, (ROW[at],), [ROW[at]]]:
                row = ROW[:at] + (value,) + ROW[at + 1:]
                self.check_row(Schema(*COLUMNS), row, False)

    def test_none(self):
        for at, column in enumerate(COLUMNS):
            row = ROW[:at] + (None,) + ROW[at + 1:]
            self.check_row(Schema(*COLUMNS), row, not column.is_required)
            self.check_row(Schema(column), (None,), not column.is_required)

    def test_any_value(self):
        numbers = Schema(Column("a", "number", is_required=True))
        words = Schema(Column("a", "word", is_required=True))
        for value in ANY_VALUES:
            self.check_row(numbers, value, value == (1,) and type(value[0]) is int)
            self.check_row(words, value, value == ("a",))
            self.check_row(Schema(*COLUMNS), value, False)


class EqualTest(unittest.TestCase):
    def test_equal(self):
        for one, other in zip(all_schemas(), all_schemas()):
            check_equal(self, one, one, True)
            check_equal(self, one, other, True)
        copies = [Column(c.name, c.kind, is_required=c.is_required) for c in COLUMNS]
        check_equal(self, Schema(*COLUMNS), Schema(*copies), True)

    def test_other_numbers_of_columns(self):
        schemas = all_schemas()
        for at, one in enumerate(schemas):
            for other_at, other in enumerate(schemas):
                check_equal(self, one, other, at == other_at)

    def test_other_orders(self):
        a, b, c = COLUMNS[:3]
        check_equal(self, Schema(a, b), Schema(b, a), False)
        check_equal(self, Schema(a, b, c), Schema(a, c, b), False)

    def test_one_other_column(self):
        a, b = COLUMNS[:2]
        check_equal(self, Schema(a, b), Schema(Column("z", "number", is_required=True), b), False)
        check_equal(self, Schema(a, b), Schema(Column("a", "word", is_required=True), b), False)
        check_equal(self, Schema(a, b), Schema(a, Column("b", "word", is_required=True)), False)

    def test_values_of_other_kinds(self):
        for schema in all_schemas():
            others = [schema.columns, list(schema.columns), schema.names, len(schema), COLUMNS[0]]
            for value in ANY_VALUES + others:
                check_equal(self, schema, value, False)

    def test_other_object_that_is_equal_to_all(self):
        self.assertIs(Schema(*COLUMNS) == EqualToAll(), False)
        self.assertIs(Schema(*COLUMNS) != EqualToAll(), True)


if __name__ == "__main__":
    unittest.main()
