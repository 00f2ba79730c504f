"""Point 14: the truth of conditions."""

import itertools
import random
import unittest

from partwise.columns import Column, Schema
from partwise.conditions import Condition
from partwise.errors import InvalidParameters, InvalidRow
from tests import plain
from tests.making import random_condition, random_schema
from tests.samples import ANY_VALUES, Kept, raised

SCHEMA = Schema(Column("a", "number"), Column("b", "number"), Column("w", "word"), Column("v", "word"))
TOP = 10 ** 30

# A text, then values of a and b, and the truth.
OF_NUMBERS = [
    ("a = 1", 1, 0, True),
    ("a = 1", 2, 0, False),
    ("a <> 1", 1, 0, False),
    ("a <> 1", -1, 0, True),
    ("a < 1", 0, 0, True),
    ("a < 1", 1, 0, False),
    ("a <= 1", 1, 0, True),
    ("a <= 1", 2, 0, False),
    ("a > -1", 0, 0, True),
    ("a > -1", -1, 0, False),
    ("a >= -1", -1, 0, True),
    ("a >= -1", -2, 0, False),
    ("a = b", 5, 5, True),
    ("a <> b", 5, 5, False),
    ("a < b", 5, 6, True),
    ("a <= b", 6, 5, False),
    ("a > b", 6, 5, True),
    ("a >= b", 5, 6, False),
    ("a = b + 1", 6, 5, True),
    ("a = b - 1", 6, 5, False),
    ("a = b - 1", 4, 5, True),
    ("a < a + 1", TOP, None, True),
    ("a > a - 1", -TOP, None, True),
    ("a = a", 3, None, True),
    ("a <> a", 3, None, False),
    ("a < b + 1", TOP, TOP, True),
    (f"a < b + {TOP}", TOP, TOP, True),
    (f"a < b + {TOP}", TOP, 0, False),
    (f"a <= b + {TOP}", TOP, 0, True),
    (f"a > b - {TOP}", -TOP, -TOP, True),
    (f"a >= b - {TOP}", -TOP, 1, False),
    (f"a <> b + {TOP}", 0, TOP, True),
    ("a in ( 1 5 5 -7 )", 5, 0, True),
    ("a in ( 1 5 5 -7 )", -7, 0, True),
    ("a in ( 1 5 5 -7 )", 2, 0, False),
    ("a rest 4 1", 5, 0, True),
    ("a rest 4 1", -3, 0, True),
    ("a rest 4 1", -1, 0, False),
    ("a rest 4 3", -1, 0, True),
    ("a rest 60 59", -1, 0, True),
    ("a rest 60 0", TOP, 0, False),
    ("a rest 60 40", TOP, 0, True),
    ("a is null", 0, 0, False),
    ("a is null", None, 0, True),
    ("a is not null", 0, 0, True),
    ("a is not null", None, 0, False),
    ("not a is null", None, 0, False),
    ("a = b", 0, None, None),
    ("a = b", None, 0, None),
    ("a = b", None, None, None),
    ("a <> b", None, None, None),
    ("a = a", None, 0, None),
    ("a < a + 1", None, 0, None),
    ("a < b - 1", 0, None, None),
    ("a = 1", None, 0, None),
    ("a <> 1", None, 0, None),
    ("a in ( 1 )", None, 0, None),
    ("a rest 2 0", None, 0, None),
    ("not a = 1", None, 0, None),
    ("not a rest 2 0", 1, 0, True),
]

# A text, then values of w and v, and the truth.
OF_WORDS = [
    ("w = 'b", "b", None, True),
    ("w = 'b", "ba", None, False),
    ("w <> 'b", "ba", None, True),
    ("w < 'b", "azzzzzzz", None, True),
    ("w < 'b", "b", None, False),
    ("w <= 'b", "b", None, True),
    ("w > 'b", "ba", None, True),
    ("w >= 'zzzzzzzz", "zzzzzzzy", None, False),
    ("w < v", "aa", "ab", True),
    ("w < v", "a", "aa", True),
    ("w >= v", "a", "aa", False),
    ("w in ( 'a 'b )", "b", None, True),
    ("w in ( 'a 'b )", "ab", None, False),
    ("w is null", None, "a", True),
    ("w = 'and or w = 'not and w <> 'or", "and", None, True),
    ("w = v", None, "a", None),
    ("w = w", "x", None, True),
]

TRUTHS = {True: "a = a", False: "a <> a", None: "b = b"}


def check_truth(test, text, row, due, *parameters):
    condition = Condition(SCHEMA, text)
    test.assertIs(condition.truth(row, *parameters), due, (text, row, parameters))


class AtomsTest(unittest.TestCase):
    def test_numbers(self):
        for text, a, b, due in OF_NUMBERS:
            check_truth(self, text, (a, b, None, None), due)

    def test_words(self):
        for text, w, v, due in OF_WORDS:
            check_truth(self, text, (None, None, w, v), due)

    def test_parameters(self):
        row = (5, None, "m", None)
        for text, given, due in [
            ("a = $1", 5, True),
            ("a < $1", 5, False),
            ("a >= $1", None, None),
            ("b = $1", 5, None),
            ("b = $1", None, None),
            ("w < $1", "ma", True),
            ("w <> $1", "m", False),
            ("not w = $1", None, None),
        ]:
            check_truth(self, text, row, due, given)

    def test_parameters_in_the_order_of_their_numbers(self):
        row = (5, 7, "m", None)
        check_truth(self, "w = $3 and a = $2 and b = $1", row, True, 7, 5, "m")
        check_truth(self, "w = $3 and a = $2 and b = $1", row, False, 5, 7, "m")
        check_truth(self, "a = $1 and b > $1", row, True, 5)


class TablesTest(unittest.TestCase):
    """`and`, `or` and `not` of True, False and None."""

    def check(self, text, due):
        check_truth(self, text, (1, None, None, None), due)

    def test_not(self):
        for truth, text in TRUTHS.items():
            self.check(f"not {text}", {True: False, False: True, None: None}[truth])
            self.check(f"not not {text}", truth)
            self.check(f"( {text} )", truth)

    def test_and(self):
        for (one, text), (other, behind) in itertools.product(TRUTHS.items(), repeat=2):
            due = False if False in (one, other) else None if None in (one, other) else True
            self.check(f"{text} and {behind}", due)

    def test_or(self):
        for (one, text), (other, behind) in itertools.product(TRUTHS.items(), repeat=2):
            due = True if True in (one, other) else None if None in (one, other) else False
            self.check(f"{text} or {behind}", due)

    def test_what_binds_first(self):
        yes, no, unknown = TRUTHS[True], TRUTHS[False], TRUTHS[None]
        self.check(f"{yes} or {no} and {no}", True)
        self.check(f"( {yes} or {no} ) and {no}", False)
        self.check(f"{no} and {no} or {yes}", True)
        self.check(f"not {no} and {no}", False)
        self.check(f"not ( {no} and {no} )", True)
        self.check(f"not {yes} or {yes}", True)
        self.check(f"{unknown} and {no} or {unknown}", None)
        self.check(f"{yes} and {yes} and {unknown} or {no} or {no}", None)


class ErrorsTest(unittest.TestCase):
    def check(self, error, condition, *arguments):
        found = raised(lambda: condition.truth(*arguments))
        self.assertIs(type(found), error, arguments)
        return found

    def test_rows(self):
        schema = Schema(Column("a", "number", is_required=True), Column("w", "word"))
        condition = Condition(schema, "a = 1 and w = $1")
        wrong = ANY_VALUES + [
            (1,), (1, "x", 2), (None, "x"), ("x", 1), (1, "X"), (1, ""), [1, "x"], (True, "x"), (10 ** 30 + 1, "x"),
        ]
        for row in wrong:
            error = self.check(InvalidRow, condition, row, "x")
            self.assertIs(error.value, row)
        for row in ((1, None), (-10 ** 30, "zzzzzzzz")):
            self.assertIn(condition.truth(row, "x"), (True, False, None))

    def test_parameters(self):
        row = (1, 1, "a", "a")
        condition = Condition(SCHEMA, "a = $1 and w = $2")
        for parameters in [(), (1,), (1, "a", 1), ("a", 1), ("a", "a"), (1, 1), (None,), (1, "a", None)]:
            self.check(InvalidParameters, condition, row, *parameters)
        for value in ANY_VALUES:
            if value is not None and not isinstance(value, int) or type(value) is bool:
                self.check(InvalidParameters, condition, row, value, "a")
            if type(value) is not str and value is not None:
                self.check(InvalidParameters, condition, row, 1, value)
        self.check(InvalidParameters, condition, row, 10 ** 30 + 1, "a")
        self.check(InvalidParameters, condition, row, 1, "abcdefghi")
        self.check(InvalidParameters, Condition(SCHEMA, "a = 1"), row, None)
        for parameters in [(None, None), (10 ** 30, "and"), (None, "a"), (1, None)]:
            self.assertIsNone(raised(lambda: condition.truth(row, *parameters)))

    def test_row_first(self):
        self.check(InvalidRow, Condition(SCHEMA, "a = $1"), (1,))
        self.check(InvalidRow, Condition(SCHEMA, "a = $1"), (1, 1, 1, 1), "a")

    def test_nothing_is_changed(self):
        condition = Condition(SCHEMA, "a = $1")
        row, parameter = [1, 2], {"a": [1]}
        kept = Kept(row, parameter)
        raised(lambda: condition.truth(row, 1))
        raised(lambda: condition.truth((1, 1, "a", "a"), parameter))
        self.assertTrue(kept.is_kept())
        self.assertEqual(condition, Condition(SCHEMA, "a = $1"))


class SecondReadingTest(unittest.TestCase):
    def test_random_conditions(self):
        chooser = random.Random(14)
        domains = {"number": [-3, 0, 1, 2], "word": ["a", "aa", "b"]}
        for _ in range(300):
            schema = random_schema(chooser, 3)
            condition = random_condition(chooser, schema, chooser.randint(1, 8))
            for _ in range(10):
                row = tuple([chooser.choice(domains[column.kind]) for column in schema.columns])
                if chooser.random() < 0.4:
                    row = tuple([
                        value if column.is_required or chooser.random() < 0.6 else None
                        for column, value in zip(schema.columns, row)
                    ])
                given = [chooser.choice(domains[kind] + [None]) for kind in condition.parameters]
                due = plain.truth(condition, row, given)
                self.assertIs(condition.truth(row, *given), due, (condition.text, row, given))


if __name__ == "__main__":
    unittest.main()
