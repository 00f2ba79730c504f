"""Point 15: conditions that are joined and negated."""

import itertools
import unittest

from partwise.columns import Column, Schema
from partwise.conditions import Condition
from partwise.errors import InvalidText, OtherSchema
from tests.samples import raised

SCHEMA = Schema(Column("a", "number"), Column("w", "word"))


def condition(text):
    return Condition(SCHEMA, text)


def atoms(count, word="and"):
    return f" {word} ".join(["a = 1"] * count)


class TextsTest(unittest.TestCase):
    def test_and(self):
        joined = condition("a = 1 or a = 2") & condition("w = $1")
        self.assertIs(type(joined), Condition)
        self.assertEqual(joined.text, "( a = 1 or a = 2 ) and ( w = $1 )")
        self.assertEqual(joined, condition("( a = 1 or a = 2 ) and ( w = $1 )"))
        self.assertEqual(joined.parameters, ("word",))

    def test_or(self):
        joined = condition("a = 1") | condition("not w = 'a")
        self.assertIs(type(joined), Condition)
        self.assertEqual(joined.text, "( a = 1 ) or ( not w = 'a )")
        self.assertEqual(joined.schema, SCHEMA)

    def test_invert(self):
        negated = ~condition("a = 1 or a = 2")
        self.assertIs(type(negated), Condition)
        self.assertEqual(negated.text, "not ( a = 1 or a = 2 )")
        self.assertEqual((~negated).text, "not ( not ( a = 1 or a = 2 ) )")

    def test_with_itself(self):
        one = condition("a = $1")
        self.assertEqual((one & one).text, "( a = $1 ) and ( a = $1 )")
        self.assertEqual((one | one).parameters, ("number",))

    def test_equal_schema(self):
        other = Condition(Schema(*SCHEMA.columns), "a = 2")
        self.assertEqual((condition("a = 1") & other).text, "( a = 1 ) and ( a = 2 )")

    def test_truth(self):
        for one, other in itertools.product(["a = 1", "a <> 1", "w = w"], repeat=2):
            pair = condition(one), condition(other)
            for operation, word in [(lambda x, y: x & y, "and"), (lambda x, y: x | y, "or")]:
                due = condition(f"{one} {word} {other}").truth((1, None))
                self.assertIs(operation(*pair).truth((1, None)), due)
            self.assertIs((~pair[0]).truth((1, None)), condition(f"not {one}").truth((1, None)))

    def test_both_stay_as_they_were(self):
        one, other = condition("a = $1"), condition("w = $1")
        for call in (lambda: one & other, lambda: one | other, lambda: ~one, lambda: one & one):
            raised(call)
            self.assertEqual(one, condition("a = $1"))
            self.assertEqual(other, condition("w = $1"))
            self.assertEqual((one.parameters, other.parameters), (("number",), ("word",)))


class LimitsTest(unittest.TestCase):
    def check_index(self, call, index):
        error = raised(call)
        self.assertIs(type(error), InvalidText)
        self.assertEqual(error.index, index)

    def check_both(self, one, other, index):
        """Both signs, with the same index in the new text."""
        one, other = condition(one), condition(other)
        self.check_index(lambda: one & other, index)
        self.check_index(lambda: one | other, index)

    def test_atoms(self):
        self.assertEqual(len((condition(atoms(4)) & condition(atoms(4))).text.split("=")), 9)
        self.assertEqual(len((condition(atoms(7)) | condition("a = 1")).text.split("=")), 9)
        # ( and eight atoms of 3 words with 7 words between them: the second word behind is wrong.
        self.check_both(atoms(8), "a = 1", 1 + 31 + 1)
        self.check_both(atoms(7), atoms(2, "or"), 1 + 27 + 1 + 1 + 1 + 3)
        self.assertEqual((~condition(atoms(8))).text, f"not ( {atoms(8)} )")

    def test_parentheses(self):
        deep = "( ( ( ( a = 1 ) ) ) )"
        self.assertEqual((condition(deep) & condition(deep)).text, f"( {deep} ) and ( {deep} )")
        self.assertEqual((~condition(deep)).text, f"not ( {deep} )")
        deeper = f"( {deep} )"
        self.check_both(deeper, "a = 1", 5)
        self.check_both("a = 1", deeper, 7 + 4)
        self.check_index(lambda: ~condition(deeper), 1 + 5)

    def test_nots(self):
        most = "not not not not not a = 1"
        self.assertEqual((condition(most) | condition("a = 1")).text, f"( {most} ) or ( a = 1 )")
        self.check_both(most, "not a = 1", 1 + 8 + 3)
        self.check_both("not a = 1", most, 1 + 4 + 3 + 4)
        self.check_index(lambda: ~condition(most), 2 + 4)
        self.assertEqual((~condition("not not not not a = 1")).text, "not ( not not not not a = 1 )")

    def test_parameters(self):
        self.check_both("a = $1", "w = $1", 7 + 2)
        self.check_both("w = $1", "a = $2 and a = $1", 7 + 2 + 4)
        self.assertEqual((condition("a = $1") & condition("w = $2 and a = $1")).parameters, ("number", "word"))


class OtherSchemaTest(unittest.TestCase):
    def test_other_schemas(self):
        one = condition("a = 1")
        for schema in (
            Schema(Column("a", "number")),
            Schema(Column("w", "word"), Column("a", "number")),
            Schema(Column("a", "number", is_required=True), Column("w", "word")),
            Schema(Column("a", "number"), Column("w", "word"), Column("b", "word")),
        ):
            other = Condition(schema, "a = 1")
            for call in (lambda: one & other, lambda: one | other, lambda: other & one, lambda: other | one):
                self.assertIs(type(raised(call)), OtherSchema)

    def test_before_the_text(self):
        other = Condition(Schema(Column("a", "number")), atoms(8))
        for call in (lambda: condition(atoms(8)) & other, lambda: condition(atoms(8)) | other):
            self.assertIs(type(raised(call)), OtherSchema)


if __name__ == "__main__":
    unittest.main()
