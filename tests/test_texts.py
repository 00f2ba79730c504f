"""Points 12 and 13: the texts of conditions, and Condition."""

import random
import unittest

from partwise.columns import Column, Schema
from partwise.conditions import Condition
from partwise.errors import InvalidText
from tests import recognizer
from tests.samples import ANY_VALUES, EqualToAll, Kept, check_equal, raised

SCHEMA = Schema(
    Column("a", "number"),
    Column("ab", "number", is_required=True),
    Column("w", "word"),
    Column("wab", "word"),
    Column("number", "number"),
)
COLUMNS = {column.name: column.kind for column in SCHEMA.columns}

# Right texts, with the kinds of their parameters.
TEXTS = {
    "a = 1": (),
    "a <> -1": (),
    "a < 0": (),
    "ab <= 1000000000000000000000000000000": (),
    "a > -1000000000000000000000000000000": (),
    "number >= 999999999999999999999999999999": (),
    "w = 'a": (),
    "w <> 'zzzzzzzz": (),
    "w < 'abcdefgh": (),
    "wab <= 'and": (),
    "w > 'null": (),
    "w >= 'w": (),
    "a = ab": (),
    "a <> a": (),
    "w <= wab": (),
    "w = w": (),
    "a < ab + 1": (),
    "a >= a - 1": (),
    "a > number + 1000000000000000000000000000000": (),
    "a = $1": ("number",),
    "w < $1": ("word",),
    "a is null": (),
    "w is not null": (),
    "a in ( 1 )": (),
    "a in ( 1 1 0 -1 1 1 1 1 )": (),
    "w in ( 'b 'a )": (),
    "a rest 2 0": (),
    "a rest 60 59": (),
    "not a = 1": (),
    "not not not not not a = 1": (),
    "not a is not null and not not not not w is not null": (),
    "( a = 1 )": (),
    "( ( ( ( ( a = 1 ) ) ) ) )": (),
    "( ( ( ( ( a in ( 1 2 ) ) ) ) ) ) and ( ( ( ( ( w is null ) ) ) ) )": (),
    "a = 1 or a = 2 and w = 'a or not ( a = 3 or w = 'b ) and a = 4": (),
    "not ( not a < $2 and ( w = $1 or a = $4 ) ) or number rest 12 11 and wab >= $3": (
        "word", "number", "word", "number",
    ),
    "a = $1 and ab < $1 and number = $1": ("number",),
    "a = 1 and a = 2 or a = 3 and a = 4 or a = 5 and a = 6 or a = 7 and a = 8": (),
    "number = number + 5 and number rest 5 4": (),
}

# Wrong texts, with the index that is due.
FAULTS = {
    "": 0,
    " ": 0,
    " a = 1": 0,
    "a = 1 ": 3,
    "a = 1  and a = 2": 3,
    "a  = 1": 1,
    "a =  1": 2,
    "a\n= 1": 0,
    "a = 1\n": 2,
    "\n": 0,
    "b = 1": 0,
    "A = 1": 0,
    "abc = 1": 0,
    "wa = 'a": 0,
    "and": 0,
    ")": 0,
    "1 = a": 0,
    "$1 = a": 0,
    "null": 0,
    "a": 1,
    "not": 1,
    "(": 1,
    "a =": 2,
    "a = 1 and": 4,
    "a = 1 or": 4,
    "( a = 1": 4,
    "a is": 2,
    "a is not": 3,
    "a in": 2,
    "a in (": 3,
    "a in ( 1": 4,
    "a in ( )": 3,
    "a in ( 1 2 3 4 5 6 7 8 9 )": 11,
    "a in ( 1 , 2 )": 4,
    "a in ( $1 )": 3,
    "a in ( ab )": 3,
    "a in ( 'a )": 3,
    "a in ( null )": 3,
    "w in ( 1 )": 3,
    "w in ( 'a 1 )": 4,
    "a in 1": 2,
    "a == 1": 1,
    "a != 1": 1,
    "a =< 1": 1,
    "a not = 1": 1,
    "a not in ( 1 )": 1,
    "a is null null": 3,
    "a is not not null": 3,
    "a is 1": 2,
    "a = null": 2,
    "a = -0": 2,
    "a = 01": 2,
    "a = 00": 2,
    "a = +1": 2,
    "a = -01": 2,
    "a = --1": 2,
    "a = -": 2,
    "a = 1.0": 2,
    "a = 1_0": 2,
    "a = 1e3": 2,
    "a = 0x1": 2,
    "a = 1000000000000000000000000000001": 2,
    "a = -1000000000000000000000000000001": 2,
    "a = 10000000000000000000000000000000": 2,
    "a = 'a": 2,
    "a = w": 2,
    "a < w": 2,
    "w = 1": 2,
    "w = a": 2,
    "w = '": 2,
    "w = 'A": 2,
    "w = 'abcdefghi": 2,
    "w = 'a1": 2,
    "w = ''a": 2,
    "w = a'": 2,
    "w = wab + 1": 3,
    "w = w - 1": 3,
    "w rest 2 0": 1,
    "a = ab +": 4,
    "a = ab + 0": 4,
    "a = ab + -1": 4,
    "a = ab - -1": 4,
    "a = ab - 1000000000000000000000000000001": 4,
    "a = ab + 'a": 4,
    "a = ab + number": 4,
    "a = ab + $1": 4,
    "a = ab * 2": 3,
    "a = ab +1": 3,
    "a = ab + 1 + 1": 5,
    "a = 1 + 1": 3,
    "a = $1 + 1": 3,
    "a + 1 = ab": 1,
    "a rest": 2,
    "a rest 2": 3,
    "a rest 0 0": 2,
    "a rest 1 0": 2,
    "a rest 7 0": 2,
    "a rest 120 0": 2,
    "a rest -2 0": 2,
    "a rest 02 0": 2,
    "a rest 2 2": 3,
    "a rest 2 -1": 3,
    "a rest 60 60": 3,
    "a rest 2 $1": 3,
    "a rest 2 0 0": 4,
    "a = $0": 2,
    "a = $5": 2,
    "a = $": 2,
    "a = $01": 2,
    "a = $1 and w = $1": 6,
    "w = $1 and a < $2 or a = $1": 10,
    "a = $2": 3,
    "a = $1 and ab = $3": 7,
    "a = $4 and ab = $3 and a = $2": 11,
    "w = $2 and w = $2": 7,
    "a = $2 and": 4,
    "a = $2 and a = 01": 6,
    "not not not not not not a = 1": 5,
    "not a = 1 and not a = 1 and not a = 1 and not a = 1 and not a = 1 and not a = 1": 25,
    "( ( ( ( ( ( a = 1 ) ) ) ) ) )": 5,
    "( ( ( ( ( a = 1 ) ) ) ) ) )": 13,
    "a = 1 )": 3,
    "( )": 1,
    "a = 1 a = 2": 3,
    "a = 1 and and a = 2": 4,
    "a = 1 and or a = 2": 4,
    "a = 1 not a = 2": 3,
    "( a = 1 ) ( a = 2 )": 5,
    "a = 1 ;": 3,
    "a and a": 1,
    "a = 1 and a = 2 or a = 3 and a = 4 or a = 5 and a = 6 or a = 7 and a = 8 and a = 9": 31,
    "a = 1 and a = 2 or a = 3 and a = 4 or a = 5 and a = 6 or a = 7 and a = 8 or": 31,
}

VOCABULARY = (
    "a ab w wab number and or not is null in rest ( ) = <> < <= > >= + - 0 1 -1 -0 01 +1 2 59 60 "
    "'a 'abcdefgh 'abcdefghi ' $1 $2 $4 $5 word b A"
).split(" ") + ["", "\n", "a\n", "1" * 31, "1" * 5000, "-" + "9" * 5000]


def index_of(text, schema=SCHEMA):
    """The index with which the text is refused, None if it is not."""
    error = raised(lambda: Condition(schema, text))
    if error is None:
        return None
    if type(error) is not InvalidText or list(vars(error)) != ["index"] or type(error.index) is not int:
        raise error
    return error.index


class RightTextsTest(unittest.TestCase):
    def test_properties(self):
        for text, kinds in TEXTS.items():
            condition = Condition(SCHEMA, text)
            self.assertEqual(condition.schema, SCHEMA)
            self.assertIs(type(condition.text), str)
            self.assertEqual(condition.text, text)
            self.assertIs(type(condition.parameters), tuple)
            self.assertEqual(condition.parameters, kinds, text)

    def test_arguments_by_name(self):
        self.assertEqual(Condition(text="a = 1", schema=SCHEMA), Condition(SCHEMA, "a = 1"))

    def test_all_moduli_and_remainders(self):
        for modulus in range(-2, 130):
            is_right = modulus in (2, 3, 4, 5, 6, 10, 12, 15, 20, 30, 60)
            self.assertEqual(index_of(f"a rest {modulus} 0"), None if is_right else 2)
            for remainder in range(-1, 62) if is_right else ():
                due = None if 0 <= remainder < modulus else 3
                self.assertEqual(index_of(f"a rest {modulus} {remainder}"), due)

    def test_parameters_in_any_order(self):
        condition = Condition(SCHEMA, "a = $3 or w = $1 or w <> $2")
        self.assertEqual(condition.parameters, ("word", "word", "number"))
        self.assertEqual(Condition(SCHEMA, "w = $2 and a = $1 and a = $1").parameters, ("number", "word"))

    def test_limits_of_a_condition(self):
        atoms = ["a = 1"] * 8
        self.assertIsNone(index_of(" and ".join(atoms)))
        self.assertEqual(index_of(" or ".join(atoms + ["a = 1"])), 31)
        for count in range(1, 9):
            values = " ".join(["5"] * count)
            self.assertIsNone(index_of(f"a in ( {values} )"))


class WrongTextsTest(unittest.TestCase):
    def test_index(self):
        for text, index in FAULTS.items():
            self.assertEqual(index_of(text), index, text)

    def test_values_of_every_kind(self):
        for value in ANY_VALUES:
            # These strings begin with the name of a column.
            begins = value in ("a", "a b", "number")
            self.assertEqual(index_of(value), 1 if begins else 0, value)
        self.assertEqual(index_of(b"a = 1"), 0)

    def test_names_of_one_column_are_no_names_of_another(self):
        schema = Schema(Column("ab", "word"), Column("abc", "number"), Column("word", "word"))
        self.assertEqual(index_of("a = 'a", schema), 0)
        self.assertEqual(index_of("abcd = 1", schema), 0)
        self.assertEqual(index_of("ab = abc", schema), 2)
        self.assertIsNone(index_of("abc = 1 and word = ab", schema))

    def test_long_texts(self):
        self.assertEqual(index_of("( " * 1000 + "a = 1" + " )" * 1000), 5)
        self.assertEqual(index_of("not " * 1000 + "a = 1"), 5)
        self.assertEqual(index_of(" and ".join(["a = 1"] * 1000)), 31)
        self.assertEqual(index_of("a in ( " + "1 " * 1000 + ")"), 11)
        self.assertEqual(index_of(" ".join(["a"] * 5000)), 1)
        self.assertEqual(index_of("a = 1" + " )" * 5000), 3)
        self.assertEqual(index_of("a" * 100000), 0)
        for digits in (31, 32, 4300, 4301, 100000):
            self.assertEqual(index_of("a = " + "9" * digits), 2)
            self.assertEqual(index_of("a = -" + "9" * digits), 2)
            self.assertEqual(index_of("a < ab + " + "9" * digits), 4)
            self.assertEqual(index_of("a in ( " + "9" * digits), 3)
            self.assertEqual(index_of("a rest " + "6" * digits), 2)

    def test_parameters_that_are_missing_are_looked_at_last(self):
        for text in ("a = $2", "a = $2 or a = $3", "w = $3 and a = $1"):
            self.assertEqual(index_of(text), len(text.split(" ")))
            self.assertEqual(index_of(text + " and"), len(text.split(" ")) + 1)
            self.assertEqual(index_of(text + " and a = 'a"), len(text.split(" ")) + 3)


class SecondReadingTest(unittest.TestCase):
    """Compares the index with that of the recognizer."""

    def check(self, words):
        index = index_of(" ".join(words))
        words = " ".join(words).split(" ")
        if index is None:
            self.assertTrue(recognizer.is_text(COLUMNS, words), words)
            return
        self.assertTrue(recognizer.begins(COLUMNS, words[:index]), (words, index))
        if index < len(words):
            self.assertFalse(recognizer.begins(COLUMNS, words[:index + 1]), (words, index))
        elif recognizer.is_text(COLUMNS, words):
            numbers = {word for word in words if word.startswith("$")}
            self.assertNotEqual(numbers, {f"${k + 1}" for k in range(len(numbers))}, words)

    def test_the_recognizer(self):
        for text in TEXTS:
            self.assertTrue(recognizer.is_text(COLUMNS, text.split(" ")), text)

    def test_one_word_left_out_or_doubled(self):
        for text in list(TEXTS) + list(FAULTS):
            words = text.split(" ")
            for at in range(len(words)):
                self.check(words[:at])
                self.check(words[:at] + words[at + 1:])
                self.check(words[:at] + [words[at]] + words[at:])
                self.check(words[:at] + words[at + 1:at + 2] + words[at:at + 1] + words[at + 2:])

    def test_one_word_put_in_or_exchanged(self):
        chooser = random.Random(12)
        for text in TEXTS:
            words = text.split(" ")
            for at in range(len(words) + 1):
                for word in chooser.sample(VOCABULARY, 4):
                    self.check(words[:at] + [word] + words[at:])
                    self.check(words[:at] + [word] + words[at + 1:])

    def test_short_texts(self):
        chooser = random.Random(13)
        for _ in range(1000):
            self.check([chooser.choice(VOCABULARY) for _ in range(chooser.randint(1, 6))])


class EqualityTest(unittest.TestCase):
    def test_equal_schemas_and_texts(self):
        one = Condition(SCHEMA, "a = 1")
        check_equal(self, one, Condition(Schema(*SCHEMA.columns), "a = 1"), True)
        check_equal(self, one, one, True)
        for text in ("a = 2", "( a = 1 )", "not not a = 1", "a = 1 or a = 1"):
            check_equal(self, one, Condition(SCHEMA, text), False)
        for schema in (Schema(Column("a", "number")), Schema(*reversed(SCHEMA.columns))):
            check_equal(self, one, Condition(schema, "a = 1"), False)

    def test_same_meaning_is_not_equality(self):
        check_equal(self, Condition(SCHEMA, "a in ( 1 2 )"), Condition(SCHEMA, "a in ( 2 1 )"), False)

    def test_other_values(self):
        for value in ANY_VALUES + ["a = 1", SCHEMA, SCHEMA.columns[0]]:
            check_equal(self, Condition(SCHEMA, "a = 1"), value, False)
        self.assertIs(Condition(SCHEMA, "a = 1") == EqualToAll(), False)


class KeptTest(unittest.TestCase):
    def test_arguments_are_not_changed(self):
        kept = Kept(SCHEMA.names)
        for text in list(TEXTS) + list(FAULTS):
            raised(lambda: Condition(SCHEMA, text))
        self.assertTrue(kept.is_kept())

    def test_properties_are_not_assigned(self):
        condition = Condition(SCHEMA, "a = $1")
        for name in ("schema", "text", "parameters"):
            with self.assertRaises(AttributeError):
                setattr(condition, name, ())
        self.assertEqual(condition, Condition(SCHEMA, "a = $1"))


if __name__ == "__main__":
    unittest.main()
