"""Points 20 to 22: possible, least_key, greatest_key, follows."""

import itertools
import random
import unittest

from partwise.columns import Column, Schema
from partwise.conditions import Condition
from partwise.errors import InvalidParameters, OtherSchema, UnknownColumn
from partwise.possible import follows, greatest_key, least_key, possible
from partwise.reasons import reason
from tests import plain
from tests.making import random_condition, random_schema
from tests.samples import ANY_VALUES, Kept, raised

TOP = 10 ** 30
NUMBERS = Schema(*[Column(name, "number", is_required=True) for name in "abc"])
WORDS = Schema(*[Column(name, "word", is_required=True) for name in "uvw"])
OPEN = Schema(Column("a", "number"), Column("w", "word"), Column("b", "number", is_required=True))


def conditions(schema, texts):
    return [Condition(schema, text) for text in texts]


class Checks(unittest.TestCase):
    def check_possible(self, schema, true, kept, due):
        row = possible(schema, conditions(schema, true), conditions(schema, kept))
        self.assertEqual(row, due, (true, kept))
        if due is not None:
            self.assertIs(type(row), tuple)
            self.assertTrue(schema.is_row(row))

    def check_ends(self, schema, text, least, greatest):
        """The least and the greatest row for which a condition is True."""
        self.check_possible(schema, [text], [], least)
        found = greatest_key(schema, schema.names, conditions(schema, [text]))
        self.assertEqual(found, greatest, text)
        self.assertEqual(least_key(schema, schema.names, conditions(schema, [text])), least)


class RowsTest(Checks):
    def test_no_condition(self):
        self.check_possible(NUMBERS, [], [], (-TOP, -TOP, -TOP))
        self.check_possible(WORDS, [], [], ("a", "a", "a"))
        self.check_possible(OPEN, [], [], (None, None, -TOP))
        self.assertEqual(possible(OPEN), (None, None, -TOP))
        self.assertEqual(greatest_key(OPEN, OPEN.names), (TOP, "zzzzzzzz", TOP))
        self.assertEqual(least_key(OPEN, ["b", "w"]), (-TOP, None))

    def test_none_and_kept(self):
        self.check_possible(OPEN, ["a = a"], [], (-TOP, None, -TOP))
        self.check_possible(OPEN, [], ["a = 5"], (None, None, -TOP))
        self.check_possible(OPEN, ["a is not null"], ["a = 5"], (5, None, -TOP))
        self.check_possible(OPEN, [], ["a is not null and a > 3"], (4, None, -TOP))
        self.check_possible(OPEN, ["not w < 'b"], ["w <> 'b"], (None, "ba", -TOP))
        self.check_possible(OPEN, ["b is null"], [], None)
        self.check_possible(OPEN, [], ["b is null"], None)
        self.check_possible(OPEN, ["a is null"], ["a = a and a = b"], (None, None, -TOP))
        self.check_possible(OPEN, ["a is null", "a = 5 or a <> 5"], [], None)
        self.check_possible(OPEN, ["a is null"], ["a = 5"], (None, None, -TOP))

    def test_neither_true_nor_false(self):
        # Only None makes both kept.
        self.check_possible(OPEN, ["b = 7"], ["a = 1", "a <> 1"], (None, None, 7))
        self.check_possible(OPEN, ["b = 7", "a is not null"], ["a = 1", "a <> 1"], None)

    def test_values(self):
        self.check_ends(NUMBERS, "a in ( 5 3 9 3 ) and b <> -5 and c rest 6 1", (3, -TOP, -TOP + 5), (
            9, TOP, TOP - 3))
        self.check_ends(WORDS, "u in ( 'c 'b ) and v > 'a and w < 'zzzzzzzz", ("b", "aa", "a"), (
            "c", "zzzzzzzz", "zzzzzzzy"))
        self.check_possible(NUMBERS, ["a in ( 1 2 3 )", "a <> 1", "not a in ( 2 )", "b = a - 7", "c > b + 4"], [], (
            3, -4, 1))

    def test_ends_of_the_numbers(self):
        self.check_possible(NUMBERS, [f"a > {TOP}"], [], None)
        self.check_possible(NUMBERS, [f"a < -{TOP}"], [], None)
        self.check_possible(NUMBERS, ["a = b + 1", f"b = {TOP}"], [], None)
        self.check_possible(NUMBERS, [f"a = b + {TOP} and c = b"], [], (0, -TOP, -TOP))
        self.check_ends(NUMBERS, f"a = b + {TOP} and b = c + {TOP}", (TOP, 0, -TOP), (TOP, 0, -TOP))
        self.check_possible(NUMBERS, [f"a = b + {TOP} and b = c + {TOP} and c > -{TOP}"], [], None)
        self.check_ends(NUMBERS, f"a > b + {TOP - 1} and b > c + {TOP - 1}", (TOP, 0, -TOP), (TOP, 0, -TOP))
        self.check_ends(NUMBERS, "a < b and b < c", (-TOP, -TOP + 1, -TOP + 2), (TOP - 2, TOP - 1, TOP))
        self.check_ends(NUMBERS, f"a rest 60 39 and a > {TOP - 60}", (TOP - 1,) + (-TOP,) * 2, (TOP - 1, TOP, TOP))
        self.check_possible(NUMBERS, [f"a rest 60 39 and a > {TOP - 1}"], [], None)
        self.check_possible(NUMBERS, [f"a > {TOP - 1} and a rest 60 39"], [], None)
        self.check_ends(NUMBERS, f"a < {1 - TOP} and a rest 60 21", None, None)
        self.check_possible(NUMBERS, [f"a >= {TOP} and b >= a and c = b"], [], (TOP, TOP, TOP))

    def test_ends_of_the_words(self):
        last = "zzzzzzzz"
        for word, behind in [
            ("a", "aa"), ("aaaaaaaa", "aaaaaaab"), ("aaaaaaaz", "aaaaaab"), ("b", "ba"), ("az", "aza"),
            ("azzzzzzz", "b"), ("zzzzzzzy", last), ("zzzzzzz", "zzzzzzza"), ("yzzzzzzz", "z"),
        ]:
            self.check_possible(WORDS, [f"u > '{word}"], [], (behind, "a", "a"))
            self.check_possible(WORDS, [f"u < v and u = '{word}"], [], (word, behind, "a"))
            self.assertEqual(greatest_key(WORDS, ["u"], conditions(WORDS, [f"u < '{behind}"])), (word,))
            self.assertIsNone(possible(WORDS, conditions(WORDS, [f"u > '{word} and u < '{behind}"])))
        self.check_possible(WORDS, [f"u > '{last}"], [], None)
        self.check_possible(WORDS, ["u < 'a"], [], None)
        self.check_possible(WORDS, ["u < v and u >= 'zzzzzzzz"], [], None)
        self.check_ends(WORDS, "u < v and v < w", ("a", "aa", "aaa"), ("zzzzzzzx", "zzzzzzzy", last))
        self.check_possible(WORDS, ["u < v and v < w and u > 'zzzzzzzx"], [], None)


class RingsTest(Checks):
    """Comparisons around in a ring."""

    def test_without_a_gain(self):
        self.check_ends(NUMBERS, "a <= b and b <= c and c <= a", (-TOP,) * 3, (TOP,) * 3)
        self.check_ends(NUMBERS, "a = b + 2 and b = c + 3 and c = a - 5", (-TOP + 5, -TOP + 3, -TOP), (
            TOP, TOP - 2, TOP - 5))
        self.check_ends(NUMBERS, "a < b and b < c and c < a + 3", (-TOP, -TOP + 1, -TOP + 2), (TOP - 2, TOP - 1, TOP))
        self.check_ends(WORDS, "u <= v and v <= w and w <= u", ("a",) * 3, ("zzzzzzzz",) * 3)

    def test_with_a_gain(self):
        for text in (
            "a < b and b < a",
            "a < b and b < c and c < a",
            "a < b and b < c and c < a + 2",
            "a <= b and b <= c and c < a",
            f"a < b - {TOP} and b < a + {TOP}",
            f"a <= b - {TOP} and b <= a + {TOP - 1}",
            "a > b + 7 and b > c + 11 and c > a - 19",
            "a < a",
            "a > a + 1",
        ):
            self.check_ends(NUMBERS, text, None, None)
        for text in ("u < v and v < u", "u < v and v <= w and w <= u", "u <= v and v < w and w <= u"):
            self.check_ends(WORDS, text, None, None)

    def test_with_remainders(self):
        ring = "a < b and b < c and c < a + 4 and "
        # b is a + 1 or a + 2, and c is at most a + 3.
        self.check_ends(NUMBERS, ring + "a rest 60 0 and b rest 60 2", (-TOP + 40, -TOP + 42, -TOP + 43), (
            TOP - 40, TOP - 38, TOP - 37))
        self.check_ends(NUMBERS, ring + "a rest 60 0 and b rest 60 3", None, None)
        self.check_ends(NUMBERS, ring + "a rest 2 0 and b rest 2 0 and c rest 2 0", None, None)
        self.check_ends(NUMBERS, ring + "a rest 2 0 and b rest 2 0 and c rest 2 1", (-TOP, -TOP + 2, -TOP + 3), (
            TOP - 4, TOP - 2, TOP - 1))
        self.check_ends(NUMBERS, "a = b + 1 and a rest 2 0 and b rest 2 0", None, None)
        for name in "abc":
            for text in ("a <= b and b <= c and c <= a", "a >= b and b >= c and c >= a"):
                self.check_ends(NUMBERS, f"{text} and {name} rest 60 7", (-TOP + 47,) * 3, (TOP - 33,) * 3)
                self.check_ends(NUMBERS, f"{name} rest 60 7 and {text} and a > 5", (7,) * 3, (TOP - 33,) * 3)
        self.check_ends(NUMBERS, "a <= b and b <= a + 1 and a rest 60 7 and b rest 60 9", None, None)
        self.check_ends(NUMBERS, "a <= b and b <= a + 2 and a rest 60 7 and b rest 60 9", (
            -TOP + 47, -TOP + 49, -TOP), (TOP - 33, TOP - 31, TOP))
        self.check_ends(NUMBERS, f"a <= b + {TOP} and b <= a - {TOP} and a rest 4 3 and b rest 4 2", None, None)

    def test_that_ends_at_a_number(self):
        self.check_ends(NUMBERS, "a < b and b < c and c < 3 and a > 0", None, None)
        self.check_ends(NUMBERS, "a < b and b < c and c < 4 and a > 0", (1, 2, 3), (1, 2, 3))

    def test_over_parameters(self):
        self.check_possible(NUMBERS, ["a < $1 and b > $1"], [], (-TOP, -TOP + 2, -TOP))
        self.check_possible(NUMBERS, ["a < $1 and b > $1 and b < a + 2"], [], None)
        self.check_possible(NUMBERS, ["a <= $1 and b >= $1 and a >= $2 and b <= $2 and a <> b"], [], None)


class ParametersTest(Checks):
    def test_one_set_of_values_for_all(self):
        self.check_possible(NUMBERS, ["a = $1", "b = $1 and a <> b"], [], None)
        self.check_possible(NUMBERS, ["a = $1", "b = $1 or b > $2"], [], (-TOP, -TOP, -TOP))
        self.check_possible(NUMBERS, ["a = $1 and a = 5"], ["b = $1"], (5, 5, -TOP))

    def test_none(self):
        self.check_possible(NUMBERS, ["a >= 5"], ["a < $1", "a >= $1"], (5, -TOP, -TOP))
        self.check_possible(NUMBERS, ["a >= 5", "b <> $1"], ["a < $1", "a >= $1"], None)
        self.check_possible(NUMBERS, ["a = $1", "a >= 5"], ["b > $1"], (5, 6, -TOP))
        self.check_possible(OPEN, ["b = $1 or not b = $1"], ["a = $1 and a <> $1"], (None, None, -TOP))

    def test_ends(self):
        self.check_possible(NUMBERS, ["a < $1", f"a = {TOP}"], [], None)
        self.check_possible(NUMBERS, ["a > $1"], [], (-TOP + 1, -TOP, -TOP))
        self.check_possible(WORDS, ["u > $1 and v < $1"], [], ("aaa", "a", "a"))


class KeysTest(Checks):
    def test_columns(self):
        true = conditions(NUMBERS, ["a in ( 1 2 ) and b in ( 3 4 ) and c = a + 10"])
        for names, least, greatest in [
            ([], (), ()),
            (["b"], (3,), (4,)),
            (["c", "b", "c"], (11, 3, 11), (12, 4, 12)),
            (("b", "b", "b", "b", "b", "b", "a"), (3,) * 6 + (1,), (4,) * 6 + (2,)),
        ]:
            self.assertEqual(least_key(NUMBERS, names, true), least)
            self.assertEqual(greatest_key(NUMBERS, names, true), greatest)
            for found in (least_key(NUMBERS, names, true), greatest_key(NUMBERS, names, true)):
                self.assertIs(type(found), tuple)

    def test_the_first_column_decides(self):
        true = conditions(NUMBERS, ["a in ( 1 2 ) and b in ( 1 2 ) and not a = b and c = 0"])
        self.assertEqual(least_key(NUMBERS, ["b", "a"], true), (1, 2))
        self.assertEqual(greatest_key(NUMBERS, ["b", "a"], true), (2, 1))
        self.assertEqual(greatest_key(NUMBERS, ["a", "b"], true), (2, 1))

    def test_no_row(self):
        true = conditions(NUMBERS, ["a < a"])
        for names in ([], ["a"], ["c", "b"]):
            self.assertIsNone(least_key(NUMBERS, names, true))
            self.assertIsNone(greatest_key(NUMBERS, names, true))

    def test_none_is_less_than_every_value(self):
        true = conditions(OPEN, ["a is null or w is null"])
        self.assertEqual(least_key(OPEN, ["a", "w"], true), (None, None))
        self.assertEqual(greatest_key(OPEN, ["a", "w"], true), (TOP, None))
        self.assertEqual(greatest_key(OPEN, ["w", "a"], true), ("zzzzzzzz", None))
        self.assertEqual(greatest_key(OPEN, ["a"], conditions(OPEN, ["a is null"])), (None,))
        kept = conditions(OPEN, ["a < 5", "a > 5 or w = 'x"])
        self.assertEqual(greatest_key(OPEN, ["a", "w"], (), kept), (4, "x"))
        self.assertEqual(greatest_key(OPEN, ["w", "a"], (), kept), ("zzzzzzzz", None))


class FollowsTest(unittest.TestCase):
    def check(self, schema, text, kept, due):
        found = follows(Condition(schema, text), conditions(schema, kept))
        self.assertIs(found, due, (text, kept))

    def test_alone(self):
        self.check(NUMBERS, "a = a", [], True)
        self.check(OPEN, "a = a", [], False)
        self.check(OPEN, "a = a or a is null", [], True)
        self.check(NUMBERS, f"a <= {TOP} and b >= -{TOP}", [], True)
        self.check(NUMBERS, f"a < {TOP}", [], False)
        self.check(WORDS, "u >= 'a and u <= 'zzzzzzzz", [], True)
        self.check(NUMBERS, "a rest 2 0 or a rest 2 1", [], True)
        self.check(NUMBERS, "a < b or b < a or a = b", [], True)
        self.check(NUMBERS, "a < b or b < a", [], False)
        self.check(OPEN, "b is not null", [], True)

    def test_from_others(self):
        self.check(NUMBERS, "a < c", ["a < b", "b < c"], True)
        self.check(NUMBERS, "a < c - 1", ["a < b", "b < c"], True)
        self.check(NUMBERS, "a < c - 2", ["a < b", "b < c"], False)
        # What is kept may be unknown.
        self.check(OPEN, "a < 5", ["a < 5"], False)
        self.check(OPEN, "a < 5", ["a < 5 and a is not null"], True)
        self.check(OPEN, "a < 5 or a is null", ["a < 5"], True)
        self.check(NUMBERS, "a <> 7", ["a rest 4 2"], True)
        self.check(NUMBERS, "a = b", ["c < c"], True)

    def test_all_values_of_the_parameters(self):
        self.check(NUMBERS, "a = $1 or a <> $1", [], False)
        self.check(NUMBERS, "a = $1 or a <> $1 or b = b", [], True)
        self.check(NUMBERS, "a < $1", ["a < $1"], False)
        self.check(NUMBERS, "not a = $1 or a > 3", ["a > 3"], True)

    def test_default(self):
        self.assertIs(follows(Condition(NUMBERS, "a = a")), True)
        self.assertIs(follows(condition=Condition(NUMBERS, "a = b"), kept=()), False)


class ErrorsTest(unittest.TestCase):
    other = Condition(Schema(*reversed(OPEN.columns)), "a = $1")
    number = Condition(OPEN, "a = $1")
    word = Condition(OPEN, "w = $1")

    def check(self, error, call):
        found = raised(call)
        self.assertIs(type(found), error)
        return found

    def check_all(self, error, true, kept):
        self.check(error, lambda: possible(OPEN, true, kept))
        self.check(error, lambda: least_key(OPEN, [], true, kept))
        self.check(error, lambda: greatest_key(OPEN, ["a"], true, kept))
        self.check(UnknownColumn, lambda: least_key(OPEN, ["x"], true, kept))
        self.check(UnknownColumn, lambda: greatest_key(OPEN, ["a", "x"], true, kept))

    def test_other_schema(self):
        for true, kept in [([self.other], []), ([], [self.other]), ([self.number, self.other], [self.word])]:
            self.check_all(OtherSchema, true, kept)
            self.check_all(OtherSchema, tuple(true), tuple(kept))
        self.check(OtherSchema, lambda: possible(NUMBERS, [self.number]))
        self.check(OtherSchema, lambda: follows(self.number, [self.other]))
        self.check(OtherSchema, lambda: follows(self.number, [self.word, self.other]))

    def test_kinds_of_parameters(self):
        two = Condition(OPEN, "w = $2 and a = $1")
        for true, kept in [
            ([self.number, self.word], []),
            ([], [self.number, self.word]),
            ([self.number], [self.word]),
            ([two], [self.word]),
            ([two], [Condition(OPEN, "a = $1 and a = $2")]),
        ]:
            self.check_all(InvalidParameters, true, kept)
        self.check(InvalidParameters, lambda: follows(self.number, [self.word]))
        self.check(InvalidParameters, lambda: follows(two, [two, self.word]))
        self.assertIsNotNone(possible(OPEN, [two, self.number]))

    def test_unknown_columns(self):
        for value in ANY_VALUES + ["w ", ["a"], ("a",)]:
            if value not in ("a", "w", "b"):
                for call in (
                    lambda: least_key(OPEN, [value]),
                    lambda: greatest_key(OPEN, ("a", value, "y")),
                    lambda: least_key(OPEN, ["a", "a", "b", value], [self.other]),
                ):
                    self.assertIs(self.check(UnknownColumn, call).value, value)


class KeptTest(unittest.TestCase):
    def test_arguments_are_not_changed(self):
        true = conditions(OPEN, ["a = $1", "b > 4"])
        kept = conditions(OPEN, ["w = $2 or a = $1"])
        names = ["b", "a", "b"]
        before = [[condition.text for condition in true], [condition.text for condition in kept]]
        untouched = Kept(names)
        lists = list(true), list(kept)
        for call in (
            lambda: possible(OPEN, true, kept),
            lambda: least_key(OPEN, names, true, kept),
            lambda: greatest_key(OPEN, names, true, kept),
            lambda: follows(true[0], kept),
        ):
            self.assertEqual(call(), call())
        self.assertTrue(untouched.is_kept())
        self.assertEqual((true, kept), lists)
        self.assertEqual([[condition.text for condition in true], [condition.text for condition in kept]], before)

    def test_tuples_and_names_of_arguments(self):
        true, kept = tuple(conditions(OPEN, ["a > 4"])), tuple(conditions(OPEN, ["a > 6"]))
        self.assertEqual(possible(schema=OPEN, kept=kept, true=true), (7, None, -TOP))
        self.assertEqual(possible(OPEN, true, kept=list(kept)), (7, None, -TOP))
        self.assertEqual(least_key(schema=OPEN, columns=("a",), true=true, kept=kept), (7,))
        self.assertEqual(greatest_key(columns=["a"], schema=OPEN, kept=kept, true=true), (TOP,))
        self.assertIs(follows(true[0], kept), False)


# The values in the middle and at both ends, and what keeps rows among them.
REGIONS = [
    {
        "number": range(-3, 4), "more numbers": [-4, 4],
        "word": ["a", "b", "ba", "c"], "more words": ["aa", "bb", "zzzzzzzz"],
        "box": {"number": "{0} >= -3 and {0} <= 3", "word": "{0} in ( 'a 'b 'ba 'c )"},
    },
    {
        "number": range(TOP - 6, TOP + 1), "more numbers": [TOP - 7],
        "word": ["zzzzzzzx", "zzzzzzzy", "zzzzzzzz"], "more words": ["zzzzzzzw"],
        "box": {"number": f"{{0}} >= {TOP - 6}", "word": "{0} > 'zzzzzzzw"},
    },
    {
        "number": range(-TOP, -TOP + 7), "more numbers": [-TOP + 7],
        "word": ["a", "aa", "aaa"], "more words": ["aaaa"],
        "box": {"number": f"{{0}} < {-TOP + 7}", "word": "{0} <= 'aaa"},
    },
]


class SearchTest(unittest.TestCase):
    """Compares with a search over few values."""

    def check(self, schema, region, true, kept, names):
        more = {"number": region["more numbers"], "word": region["more words"]}
        box = conditions(schema, [region["box"][column.kind].format(column.name) for column in schema.columns])
        domains = {kind: list(region[kind]) for kind in ("number", "word")}
        wide = {kind: domains[kind] + more[kind] for kind in domains}
        rows = [
            row
            for row in plain.all_rows(schema, true, kept, wide)
            if all(value is None or value in domains[column.kind] for value, column in zip(row, schema.columns))
        ]
        told = ([column.kind for column in schema.columns], [c.text for c in true], [c.text for c in kept], names)
        kept = kept + box
        self.assertEqual(possible(schema, true, kept), min(rows, key=plain.order, default=None), told)
        keys = [tuple([row[schema.names.index(name)] for name in names]) for row in rows]
        self.assertEqual(least_key(schema, names, true, kept), min(keys, key=plain.order, default=None), told)
        self.assertEqual(greatest_key(schema, names, true, kept), max(keys, key=plain.order, default=None), told)

    def test_random_conditions(self):
        chooser = random.Random(20)
        tried = 0
        while tried < 150:
            region = REGIONS[tried % 3]
            schema = random_schema(chooser, 3)
            numbers = list(region["number"]) + region["more numbers"]
            words = region["word"] + region["more words"]
            made = [
                [
                    random_condition(chooser, schema, chooser.randint(1, 4), numbers, words)
                    for _ in range(chooser.randint(0, 2))
                ]
                for _ in range(2)
            ]
            names = [chooser.choice(schema.names) for _ in range(chooser.randint(0, 3))]
            pairs = itertools.combinations([*made[0], *made[1]], 2)
            if all(kind == other for one, two in pairs for kind, other in zip(one.parameters, two.parameters)):
                self.check(schema, region, made[0], made[1], names)
                tried += 1

    def test_follows(self):
        chooser = random.Random(22)
        found = []
        for _ in range(150):
            schema = random_schema(chooser, 2)
            condition = random_condition(chooser, schema, chooser.randint(1, 3))
            kept = [random_condition(chooser, schema, chooser.randint(1, 3)) for _ in range(chooser.randint(0, 2))]
            if len({one.parameters[:1] for one in [condition, *kept] if one.parameters}) > 1:
                continue
            if any(len(one.parameters) > 1 for one in [condition, *kept]):
                continue
            # Numbers and words between and beyond those of the conditions.
            domains = {"number": range(-70, 71), "word": ["a", "aa", "aaa", "b", "ba", "baa", "bb", "bba", "c", "ca",
                                                          "zzzzzzzy", "zzzzzzzz"]}
            if sum(column.kind == "number" for column in schema.columns) + len(condition.parameters) > 1:
                domains["number"] = range(-10, 11)
            due = not plain.can_differ(schema, condition, kept, domains)
            self.assertIs(follows(condition, kept), due, (condition.text, [one.text for one in kept]))
            found.append(due)
        self.assertIn(True, found)
        self.assertIn(False, found)


class ProofTest(unittest.TestCase):
    """Over all numbers and words: nothing is less or greater, and there is a reason for it."""

    def check_beyond(self, schema, true, kept, text):
        more = true + [Condition(schema, text)]
        self.assertIsNone(possible(schema, more, kept), text)
        self.assertTrue(plain.Reasons(schema, more, kept).accepts(reason(schema, more, kept)), text)

    def check(self, schema, true, kept):
        row = possible(schema, true, kept)
        if row is None:
            return
        self.assertTrue(schema.is_row(row))
        equal = [Condition(schema, equality(name, value)) for name, value in zip(schema.names, row)]
        self.assertEqual(possible(schema, true + equal, kept), row)
        for name in schema.names:
            for key, sign in [(least_key, "<"), (greatest_key, ">")]:
                (value,) = key(schema, [name], true, kept)
                self.assertIsNotNone(possible(schema, true + [Condition(schema, equality(name, value))], kept))
                if value is not None:
                    self.check_beyond(schema, true, kept, equality(name, value).replace("=", sign))
                if (value is None) != (sign == "<"):
                    self.check_beyond(schema, true, kept, f"{name} is " + ("null" if sign == "<" else "not null"))

    def test_random_conditions(self):
        chooser = random.Random(21)
        for count in range(150):
            schema = random_schema(chooser, 4)
            numbers = [list(range(-4, 5)), [TOP, TOP - 1, -TOP, 0, 5, 1 - TOP], [100, 200, 300, -100]][count % 3]
            true = [random_condition(chooser, schema, chooser.randint(1, 6), numbers) for _ in range(chooser.randint(1, 3))]
            kept = [random_condition(chooser, schema, chooser.randint(1, 6), numbers) for _ in range(chooser.randint(0, 3))]
            if raised(lambda: possible(schema, true, kept)) is None:
                self.check(schema, true, kept)


def equality(name, value):
    """The text of the condition that a column has this value."""
    if value is None:
        return f"{name} is null"
    return f"{name} = '{value}" if isinstance(value, str) else f"{name} = {value}"


class LoadTest(unittest.TestCase):
    """Questions that would take for ever by trying out."""

    def test_many_differences(self):
        schema = Schema(*[Column(name, "number", is_required=True) for name in "abcde"])
        pairs = [f"{x} <> {y}" for x, y in itertools.combinations("abcde", 2)]
        different = conditions(schema, [" and ".join(pairs[:5]), " and ".join(pairs[5:])])
        few = conditions(schema, [f"{name} in ( 10 20 30 40 )" for name in "abcde"])
        self.assertIsNone(possible(schema, different + few))
        more = conditions(schema, [f"{name} in ( 10 20 30 40 50 )" for name in "abcde"])
        self.assertEqual(possible(schema, different + more), (10, 20, 30, 40, 50))
        self.assertEqual(greatest_key(schema, schema.names, different, more), (50, 40, 30, 20, 10))

    def test_many_conditions(self):
        texts = [f"a <> {k - TOP} and ( b = {k} or a > b + {k + 1} )" for k in range(60)]
        row = possible(NUMBERS, conditions(NUMBERS, texts))
        self.assertEqual(row, (-TOP + 61, -TOP, -TOP))
        self.assertIsNone(possible(NUMBERS, conditions(NUMBERS, texts + [f"a < {-TOP + 61}"])))


if __name__ == "__main__":
    unittest.main()
