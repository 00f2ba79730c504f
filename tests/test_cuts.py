"""Points 32 and 33: cuts, bounds that fit, overlap and gap."""

import itertools
import random
import unittest

from partwise.bounds import Bound, Default, Range, Rest, Values
from partwise.columns import Column, Schema
from partwise.cuts import Cut, gap, overlap
from partwise.errors import InvalidBound, InvalidCut, UnknownColumn
from tests import keys
from tests.samples import ANY_VALUES, RESERVED, EqualToAll, Kept, check_equal, raised

TOP = 10 ** 30
LAST = "zzzzzzzz"
OPEN = Schema(Column("a", "number"), Column("b", "number"), Column("w", "word"), Column("v", "word"))
FULL = Schema(*[Column(column.name, column.kind, is_required=True) for column in OPEN.columns])
MIXED = Schema(Column("a", "number", is_required=True), Column("b", "number"), Column("w", "word"),
               Column("v", "word", is_required=True))


class CutTest(unittest.TestCase):
    def refuse(self, *arguments):
        error = raised(lambda: Cut(*arguments))
        self.assertIs(type(error), InvalidCut, arguments)
        self.assertEqual(vars(error), {})

    def test_properties(self):
        for kind, columns, text in [
            ("range", ("a",), "by range a"),
            ("range", ("b", "a"), "by range b a"),
            ("values", ("w",), "by values w"),
            ("rest", ("lowercas",), "by rest lowercas"),
        ]:
            cut = Cut(kind, *columns)
            self.assertEqual((cut.kind, cut.columns, cut.text), (kind, columns, text))
            self.assertIs(type(cut.columns), tuple)

    def test_other_kinds(self):
        for kind in ANY_VALUES + ["Range", "default", "ranges", "by"]:
            self.refuse(kind, "a")
            self.refuse(kind)

    def test_other_columns(self):
        for value in ANY_VALUES + RESERVED + ["lowercase", "a ", "A"]:
            if value not in ("a", "name", "number", "word"):
                for kind in ("range", "values", "rest"):
                    self.refuse(kind, value)
                self.refuse("range", "b", value)
                self.refuse("range", value, "b")

    def test_numbers_of_columns(self):
        for kind in ("range", "values", "rest"):
            self.refuse(kind)
            self.refuse(kind, ["a"])
            self.refuse(kind, ("a",))
            self.refuse(kind, "a", "a")
            self.refuse(kind, "a", "b", "c")
        self.refuse("values", "a", "b")
        self.refuse("rest", "a", "b")

    def test_equality(self):
        cuts = [Cut("range", "a"), Cut("range", "b"), Cut("range", "a", "b"), Cut("range", "b", "a"),
                Cut("values", "a"), Cut("rest", "a")]
        for one, other in itertools.product(range(len(cuts)), repeat=2):
            check_equal(self, cuts[one], cuts[other], one == other)
        check_equal(self, cuts[2], Cut("range", "a", "b"), True)
        for value in ANY_VALUES + ["by range a", ("range", "a"), Range((1,), (2,))]:
            check_equal(self, cuts[0], value, False)
        self.assertIs(cuts[0] == EqualToAll(), False)


# For each cut, bounds that fit it whatever its columns are, and those that do by the kinds of the columns.
NUMBERS = ["range 1 to 5", "range - to +", "range 5 to +", "range - to 5"]
WORDS = ["range 'a to 'b", "range 'a to +"]
TEXTS = NUMBERS + WORDS + [
    "range 1 2 to 3 4", "range 1 'a to 3 'b", "range 'a 1 to 'b 2", "range 1 - to 5 -",
    "range - - to + +", "range 'a - to + +", "range - - to 5 'a", "range 1 + to 2 2",
    "values 1 2", "values 'a 'b", "values null", "values null 3", "values null 'x", "rest 2 0", "rest 60 59", "default",
]


class FitsTest(unittest.TestCase):
    def check(self, cut, fitting):
        for text in TEXTS:
            bound = Bound.read(text)
            due = None if text in fitting else InvalidBound
            for schema in (OPEN, FULL):
                for call in (
                    lambda: gap(schema, cut, [bound]),
                    lambda: overlap(schema, cut, bound, bound),
                ):
                    error = raised(call)
                    self.assertEqual(None if error is None else type(error), due, (cut.text, text))

    def test_ranges(self):
        both = ["range - to +"]
        self.check(Cut("range", "a"), NUMBERS)
        self.check(Cut("range", "w"), WORDS + both)
        self.check(Cut("range", "a", "b"), ["range 1 2 to 3 4", "range 1 - to 5 -", "range - - to + +", "range 1 + to 2 2"])
        self.check(Cut("range", "a", "w"), ["range 1 'a to 3 'b", "range 1 - to 5 -", "range - - to + +",
                                            "range - - to 5 'a"])
        self.check(Cut("range", "w", "a"), ["range 'a 1 to 'b 2", "range 'a - to + +", "range - - to + +"])
        self.check(Cut("range", "w", "v"), ["range 'a - to + +", "range - - to + +"])

    def test_values(self):
        self.check(Cut("values", "a"), ["values 1 2", "values null", "values null 3"])
        self.check(Cut("values", "w"), ["values 'a 'b", "values null", "values null 'x"])

    def test_rests(self):
        self.check(Cut("rest", "a"), ["rest 2 0", "rest 60 59"])
        # A remainder of a word does not exist.
        self.check(Cut("rest", "w"), [])
        self.assertEqual(gap(FULL, Cut("rest", "w"), []), ("a",))


class ErrorsTest(unittest.TestCase):
    def check(self, call, due, **fields):
        error = raised(call)
        self.assertIs(type(error), due)
        self.assertEqual(vars(error), fields)

    def test_unknown_columns_come_first(self):
        bound = Range((1,), (2,))
        for cut, column in [
            (Cut("range", "x"), "x"), (Cut("range", "a", "y"), "y"), (Cut("range", "x", "y"), "x"), (Cut("rest", "z"), "z"),
        ]:
            self.check(lambda: gap(OPEN, cut, []), UnknownColumn, value=column)
            self.check(lambda: gap(OPEN, cut, [Default(), bound]), UnknownColumn, value=column)
            self.check(lambda: overlap(OPEN, cut, bound, Default()), UnknownColumn, value=column)

    def test_defaults(self):
        cut = Cut("range", "a")
        bound = Range((1,), (2,))
        for one, other in [(bound, Default()), (Default(), bound), (Default(), Default())]:
            self.check(lambda: overlap(OPEN, cut, one, other), InvalidBound)
            self.check(lambda: gap(OPEN, cut, [one, other]), InvalidBound)
        self.check(lambda: gap(OPEN, cut, [bound, bound, Rest(2, 0)]), InvalidBound)

    def test_arguments(self):
        cut, bounds = Cut("range", "a"), [Range((1,), (5,)), Range((5,), ("+",))]
        kept = Kept([bound.text for bound in bounds])
        length = list(bounds)
        self.assertEqual(gap(schema=FULL, cut=cut, bounds=tuple(bounds)), gap(FULL, cut, bounds))
        self.assertEqual(overlap(schema=FULL, cut=cut, one=bounds[0], other=bounds[1]), None)
        self.assertEqual(bounds, length)
        self.assertTrue(kept.is_kept())


class LeastKeyTest(unittest.TestCase):
    """Least keys that are known."""

    def test_overlap(self):
        for schema, cut, one, other, due in [
            (OPEN, Cut("range", "a"), Range((1,), (5,)), Range((4,), (9,)), (4,)),
            (OPEN, Cut("range", "a"), Range((1,), (5,)), Range((5,), (9,)), None),
            (OPEN, Cut("range", "a"), Range(("-",), (5,)), Range(("-",), ("+",)), (-TOP,)),
            (OPEN, Cut("range", "a"), Range((TOP,), ("+",)), Range((5,), ("+",)), (TOP,)),
            (OPEN, Cut("range", "w"), Range(("-",), ("+",)), Range(("b",), ("+",)), ("b",)),
            (OPEN, Cut("range", "w"), Range((LAST,), ("+",)), Range(("-",), ("+",)), (LAST,)),
            (OPEN, Cut("range", "a", "b"), Range((1, 5), (3, 2)), Range((3, "-"), (9, "+")), (3, -TOP)),
            (OPEN, Cut("range", "a", "b"), Range((1, 5), (3, "-")), Range((3, "-"), (9, "+")), None),
            (OPEN, Cut("range", "a", "b"), Range((5, "+"), (6, "-")), Range(("-", "-"), ("+", "+")), None),
            (OPEN, Cut("range", "a", "w"), Range((5, "+"), (6, "a")), Range(("-", "-"), ("+", "+")), None),
            (OPEN, Cut("range", "a", "w"), Range((5, "+"), (6, "b")), Range(("-", "-"), ("+", "+")), (6, "a")),
            (OPEN, Cut("range", "w", "a"), Range(("a", "+"), ("b", "-")), Range(("-", "-"), ("+", "+")), ("aa", -TOP)),
            (OPEN, Cut("range", "w", "v"), Range(("a", "b"), ("b", "c")), Range(("b", "-"), ("+", "+")), ("b", "a")),
            (OPEN, Cut("values", "a"), Values(None, 3), Values(None, 4), (None,)),
            (FULL, Cut("values", "a"), Values(None, 3), Values(None, 4), None),
            (FULL, Cut("values", "a"), Values(None, 3, 7), Values(9, 7, 3), (3,)),
            (OPEN, Cut("rest", "a"), Rest(4, 1), Rest(6, 3), (-TOP + 1 + (9 - (-TOP + 1)) % 12,)),
            (OPEN, Cut("rest", "a"), Rest(4, 1), Rest(6, 2), None),
            (OPEN, Cut("rest", "a"), Rest(3, 1), Rest(5, 2), (-TOP + (7 + TOP) % 15,)),
        ]:
            self.assertEqual(overlap(schema, cut, one, other), due, (one.text, other.text))
            self.assertEqual(overlap(schema, cut, other, one), due)

    def test_gap(self):
        for schema, cut, texts, due in [
            (OPEN, Cut("range", "a"), [], (None,)),
            (FULL, Cut("range", "a"), [], (-TOP,)),
            (OPEN, Cut("range", "a"), ["range - to +"], (None,)),
            (FULL, Cut("range", "a"), ["range - to +"], None),
            (FULL, Cut("range", "a"), [f"range {-TOP} to {TOP}"], (TOP,)),
            (FULL, Cut("range", "a"), ["range - to 5", "range 6 to +"], (5,)),
            (FULL, Cut("range", "w"), ["range - to 'b", "range 'ba to +"], ("b",)),
            (FULL, Cut("range", "w"), [f"range 'a to '{LAST}"], (LAST,)),
            (FULL, Cut("range", "a", "b"), ["range - - to 5 5", "range 6 - to + +"], (5, 5)),
            (FULL, Cut("range", "a", "b"), ["range - - to 5 +", "range 6 - to + +"], None),
            (FULL, Cut("range", "w", "a"), ["range - - to 'b +", "range 'c - to + +"], ("ba", -TOP)),
            (OPEN, Cut("range", "a", "b"), ["range - - to + +"], (None, None)),
            (MIXED, Cut("range", "a", "b"), ["range - - to + +"], (-TOP, None)),
            (MIXED, Cut("range", "b", "a"), ["range - - to + +"], (None, -TOP)),
            (OPEN, Cut("values", "a"), ["values null"], (-TOP,)),
            (OPEN, Cut("values", "w"), ["values null 'a", "values 'aa"], ("aaa",)),
            (FULL, Cut("values", "w"), ["values 'a 'aa 'aaa 'aaaa 'aaaaa 'aaaaaa 'aaaaaaa 'aaaaaaaa"], ("aaaaaaab",)),
            (OPEN, Cut("rest", "a"), ["rest 2 0", "rest 2 1"], (None,)),
            (FULL, Cut("rest", "a"), ["rest 2 0", "rest 2 1"], None),
            (FULL, Cut("rest", "a"), ["rest 2 0", "rest 3 0", "rest 4 1", "rest 6 1"],
             (min(n for n in range(-TOP, -TOP + 60) if n % 2 and n % 3 and n % 4 != 1 and n % 6 != 1),)),
            (FULL, Cut("rest", "a"), ["rest 2 0", "rest 3 0", "rest 4 1", "rest 6 1", "rest 12 11"], None),
        ]:
            self.assertEqual(gap(schema, cut, [Bound.read(text) for text in texts]), due, texts)


class SearchTest(unittest.TestCase):
    """Compares with a search over small and extreme keys."""

    constants = {
        "number": [[0, 1, 2, 3], [-TOP, 1 - TOP, TOP - 1, TOP]],
        "word": [["a", "aa", "b", "ba"], ["a", LAST, "zzzzzzzy", "aaaaaaaa"]],
    }

    def end(self, chooser, kinds, which):
        entries = []
        for kind in kinds:
            if entries and entries[-1] in ("-", "+"):
                entries.append(entries[-1])
            else:
                entries.append(chooser.choice(self.constants[kind][which] + ["-", "+"]))
        return tuple(entries)

    def bound(self, chooser, cut, kinds, which):
        if cut.kind == "rest":
            modulus = chooser.choice([2, 3, 4, 5, 6, 10, 12, 60])
            return Rest(modulus, chooser.randrange(modulus))
        if cut.kind == "values":
            values = [None] + self.constants[kinds[0]][which]
            return Values(*chooser.sample(values, chooser.randint(1, 4)))
        while True:
            low, high = self.end(chooser, kinds, which), self.end(chooser, kinds, which)
            if raised(lambda: Range(low, high)) is None:
                return Range(low, high)

    def cut(self, chooser, schema):
        kind = chooser.choice(["range", "range", "values", "rest"])
        if kind == "rest":
            return Cut("rest", chooser.choice(["a", "b"]))
        count = chooser.randint(1, 2) if kind == "range" else 1
        return Cut(kind, *chooser.sample(schema.names, count))

    def test_random_bounds(self):
        chooser = random.Random(33)
        found = []
        for count in range(700):
            schema = chooser.choice([OPEN, FULL, MIXED])
            cut = self.cut(chooser, schema)
            kinds = [schema[name].kind for name in cut.columns]
            bounds = [self.bound(chooser, cut, kinds, count % 2) for _ in range(chooser.randint(2, 5))]
            texts = [bound.text for bound in bounds]
            told = (cut.text, texts, [column.is_required for column in schema.columns])
            due = keys.least_key(schema, cut.columns, texts, lambda key: not any(keys.holds(t, [], key) for t in texts))
            self.assertEqual(gap(schema, cut, bounds), due, told)
            pair = texts[:2]
            both = keys.least_key(schema, cut.columns, pair, lambda key: all(keys.holds(t, [], key) for t in pair))
            self.assertEqual(overlap(schema, cut, *bounds[:2]), both, told)
            found += [due, both]
        self.assertGreater(found.count(None), 100)
        self.assertGreater(len(found) - found.count(None), 300)


if __name__ == "__main__":
    unittest.main()
