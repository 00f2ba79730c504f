"""Point 23: reasons that no row is possible."""

import itertools
import random
import unittest

from partwise.columns import Column, Schema
from partwise.conditions import Condition
from partwise.errors import InvalidParameters, OtherSchema
from partwise.possible import possible
from partwise.reasons import is_reason, reason
from tests import plain
from tests.making import random_condition, random_schema
from tests.samples import ANY_VALUES, Kept, raised

TOP = 10 ** 30
LAST = "zzzzzzzz"
# The columns a, b, c and u, v, w are required; o and p are not.
NUMBERS = Schema(*[Column(name, "number", is_required=name != "o") for name in "abco"])
WORDS = Schema(*[Column(name, "word", is_required=name != "p") for name in "uvwp"])
EVENS = tuple(range(0, 60, 2))
ODDS = tuple(range(1, 60, 2))


def conditions(schema, texts):
    return [Condition(schema, text) for text in texts]


class Checks(unittest.TestCase):
    schema = NUMBERS

    def check(self, true, value, due=True, kept=()):
        """Whether the value is a reason, by the program and by the second reading."""
        true, kept = conditions(self.schema, true), conditions(self.schema, kept)
        self.assertIs(is_reason(self.schema, true, kept, value), due, value)
        self.assertIs(plain.Reasons(self.schema, true, kept).accepts(value), due, value)

    def refuse(self, true, value, kept=()):
        self.check(true, value, False, kept)


class FailsTest(Checks):
    def test_at_once(self):
        self.check(["a < a"], ("fails", 0))
        self.check(["a = a", "b is null"], ("fails", 1))
        self.check([f"a > {TOP}"], ("fails", 0))
        self.check(["b = b"], ("fails", 1), kept=["c is null"])
        self.refuse(["a < b"], ("fails", 0))
        self.refuse(["o < o"], ("fails", 0))
        self.refuse(["a < a"], ("fails", 1))
        self.refuse(["a < a"], ("fails", -1))
        self.refuse(["a < a"], ("fails", False))
        self.refuse(["a < a"], ("fails", "0"))
        self.refuse(["a < a"], ("fails", 0, 0))
        self.refuse(["a < a"], ("fails",))
        self.refuse(["a < a"], ["fails", 0])
        self.refuse(["a < a"], ("fail", 0))

    def test_true_is_not_true_and_kept_is_false(self):
        under = ("split", ("null", "o"), ("fails", 0), ("fails", 0))
        # o = 1 is None under the assumption, so not True, but not False either.
        self.check(["o = 1 and o <> 1"], ("split", ("null", "o"), ("fails", 0), (
            "split", ("least", "o", 1), ("split", ("less", "o", 2), ("fails", 0), ("fails", 0)), ("fails", 0))))
        self.refuse(["o = 1"], under)
        self.check(["a = a"], ("split", ("some", "o"), ("fails", 1), ("fails", 0)), False, ["o < o"])
        self.check(["o = o"], ("split", ("some", "o"), ("fails", 1), ("fails", 0)), True, ["o < o"])
        self.refuse(["a = a"], ("split", ("some", "o"), ("fails", 1), ("fails", 1)), ["o < o"])
        self.check(["o < o"], ("split", ("some", "o"), ("fails", 0), ("fails", 0)))

    def test_open_atoms(self):
        # Whatever b = 1 is by itself, the condition is not True.
        self.check(["b = 1 and a < a"], ("fails", 0))
        self.check(["not ( b = 1 or a = a )"], ("fails", 0))
        self.refuse(["b = 1 or a < a"], ("fails", 0))
        # One atom that occurs twice is open twice.
        self.refuse(["b = 1 and not b = 1"], ("fails", 0))
        self.check(["a = a"], ("fails", 1), kept=["b = 1 and a < a"])
        # An atom that is open may be None.
        self.refuse(["a = a"], ("fails", 1), kept=["b = 1 and not b = 1"])
        self.refuse(["o is null and o is not null"], ("fails", 0))

    def test_null(self):
        for text, is_failing in [
            ("o is null", False), ("o is not null", True), ("o = o", True), ("a = o", True), ("o in ( 1 )", True),
            ("o rest 2 0", True), ("not o < 5", True), ("not o is null", True), ("a is null", True),
        ]:
            other = ("fails", 1)
            true = [text, "o is null"]
            tree = ("split", ("null", "o"), ("fails", 0), other)
            self.check(true, tree, is_failing)

    def test_null_wins_over_required_and_some(self):
        self.check(["a is not null"], ("split", ("null", "a"), ("fails", 0), ("fails", 0)), False)
        self.check(["a is not null and a < a"], ("split", ("null", "a"), ("fails", 0), ("fails", 0)))
        self.refuse(["a is null"], ("split", ("null", "a"), ("fails", 0), ("fails", 0)))
        both = ("split", ("some", "o"), ("split", ("null", "o"), ("fails", 0), ("fails", 1)), ("fails", 0))
        self.check(["o = o", "o is null"], both)
        self.refuse(["o = o", "o is not null"], both)

    def test_one_unknown(self):
        def split(v, one, other):
            return ("split", ("least", "a", v), one, other)

        self.check(["a < 5 and a >= 5"], split(5, ("fails", 0), ("fails", 0)))
        self.check(["a < 5 and a >= 5"], split(4, ("fails", 0), ("fails", 0)), False)
        self.check(["a in ( 3 5 ) and a = 4"], split(4, split(5, ("fails", 0), ("fails", 0)), ("fails", 0)))
        self.check(["not a in ( 3 4 ) and a >= 3 and a < 5"], split(3, split(5, ("fails", 0), ("fails", 0)), (
            "fails", 0)))
        self.check(["not a in ( 1 7 5 6 9 ) and a >= 5 and a < 8"], split(5, split(8, ("fails", 0), ("fails", 0)), (
            "fails", 0)))
        self.check(["a rest 2 0 and a = 5"], split(5, split(6, ("fails", 0), ("fails", 0)), ("fails", 0)))
        self.check(["a rest 5 0 and a > 5 and a < 10"], split(6, split(10, ("fails", 0), ("fails", 0)), ("fails", 0)))
        self.refuse(["a rest 5 0 and a > 5 and a < 10"], split(5, split(10, ("fails", 0), ("fails", 0)), ("fails", 0)))
        self.refuse(["a rest 5 0 and a > 5 and a < 11"], split(6, split(11, ("fails", 0), ("fails", 0)), ("fails", 0)))
        self.check(["not a rest 2 1 and a = 5"], split(5, split(6, ("fails", 0), ("fails", 0)), ("fails", 0)))
        self.check(["not a rest 4 3 and a = -5"], split(-5, split(-4, ("fails", 0), ("fails", 0)), ("fails", 0)))
        self.refuse(["not a rest 4 2 and a = 5"], split(5, split(6, ("fails", 0), ("fails", 0)), ("fails", 0)))
        self.refuse(["a rest 2 0 and a = 4"], split(4, split(5, ("fails", 0), ("fails", 0)), ("fails", 0)))

    def test_no_such_values(self):
        # Without a value between, the atom a >= 5 is open again, and a walk is needed.
        true = ["a >= 5 and a < 4"]
        self.check(true, ("split", ("least", "a", 5), ("split", ("less", "a", 4), (
            "walk", (("least", "a", 5), ("less", "a", 4))), ("fails", 0)), ("fails", 0)))
        self.refuse(true, ("split", ("least", "a", 5), ("split", ("less", "a", 4), ("fails", 0), ("fails", 0)), (
            "fails", 0)))
        for text in ("a > 10", "a < 0", "a = 10", "a rest 5 0", "not a < 5"):
            self.refuse([text, "a < a"], ("split", ("least", "a", 5), ("split", ("less", "a", 4), ("fails", 0), (
                "fails", 1)), ("fails", 1)))
        # The rests still count then.
        self.check(["a >= 5 and a < 4 and a rest 2 0"], ("split", ("rests", "a", ODDS), (
            "split", ("least", "a", 5), ("split", ("less", "a", 4), ("fails", 0), ("fails", 0)), ("fails", 0)), (
            "split", ("least", "a", 5), ("fails", 0), ("fails", 0))))

    def test_rests(self):
        def split(rests, one=("fails", 0), other=("fails", 0)):
            return ("split", ("rests", "a", rests), one, other)

        self.check(["a rest 2 0 and a rest 2 1"], split(EVENS))
        self.check(["a rest 2 0 and not a rest 2 0"], split(ODDS))
        self.refuse(["a rest 2 0 and a rest 3 1"], split(EVENS))
        self.check(["a rest 2 0 and a in ( 1 3 61 )"], split(EVENS))
        self.refuse(["a rest 2 0 and a in ( 1 3 60 )"], split(EVENS))
        self.check(["a rest 2 0 and not a <> -1"], split(EVENS))
        self.refuse(["a rest 2 0 and a < 1"], split(EVENS))
        self.check(["a rest 6 1 and a rest 4 2"], split(tuple(range(1, 60, 6))))
        # Without an integer that is left, the atom is open.
        self.refuse(["a rest 2 0"], split(EVENS, split(ODDS), ("fails", 0)))
        self.refuse(["a rest 6 3"], split(EVENS, split((3, 9)), ("fails", 0)))
        for text in ("not a rest 2 0", "a rest 2 1", "a = 5", "a in ( 4 5 )", "a <> 5"):
            self.refuse([text, "a < a"], split(EVENS, split(ODDS, ("fails", 0), ("fails", 1)), ("fails", 1)))
        # Each rests above counts.
        true = ["a rest 2 0 and a rest 3 0 and not a rest 6 0"]
        self.check(true, split(EVENS, split(tuple(range(0, 60, 3)))))
        self.refuse(true, split(EVENS))

    def test_greatest_numbers(self):
        # Numbers end, but integers do not.
        self.check([f"a >= {TOP} and a < {TOP}"], ("split", ("least", "a", TOP), ("fails", 0), ("fails", 0)))
        self.check([f"a < -{TOP}"], ("split", ("rests", "a", EVENS), ("fails", 0), ("fails", 0)))

    def test_two_unknowns(self):
        def split(n, one=("fails", 0), other=("fails", 0)):
            return ("split", ("below", "a", "b", n), one, other)

        self.check(["a < b and b < a"], split(0))
        self.check(["a < b and b < a"], split(-1))
        self.refuse(["a < b and b < a"], split(1))
        self.check(["a > b + 2 and b >= a - 2"], split(2))
        self.check(["a <> b and a <= b and a >= b"], split(0, split(-1), ("fails", 0)))
        self.check(["a <> b and a <= b and a >= b"], ("split", ("above", "b", "a", 0), ("fails", 0), split(0)))
        self.refuse(["a < b + 1 and b < a + 1 and a <> c"], split(0))
        # Where no difference is left, the atom is open.
        self.refuse(["a < b"], split(0, split(-1, ("fails", 0), ("fails", 0)), ("fails", 0)))
        for text in ("a > b + 100", "a < b - 100", "a = b"):
            self.refuse([text, "a < a"], split(-5, ("split", ("above", "a", "b", 5), ("fails", 0), ("fails", 1)), (
                "fails", 1)))
        # least, less and rests do not count.
        self.refuse(["a < b and a > 5 and b < 5"], ("split", ("least", "a", 6), ("split", ("less", "b", 5), (
            "fails", 0), ("fails", 0)), ("fails", 0)))
        # The difference of numbers has no end.
        self.refuse([f"a > b + {TOP} and a <= {TOP - 1}"], ("fails", 0))

    def test_two_words(self):
        self.schema = WORDS
        self.check(["u < v and v < u"], ("split", ("below", "u", "v", 0), ("fails", 0), ("fails", 0)))
        self.check(["u = v and v <> u"], ("split", ("below", "u", "v", 0), (
            "split", ("above", "v", "u", 0), ("fails", 0), ("fails", 0)), ("fails", 0)))
        self.refuse(["u = v and v <> u"], ("split", ("below", "u", "v", 0), ("fails", 0), ("fails", 0)))
        self.refuse(["u < v and v < u"], ("split", ("below", "u", "v", 1), ("fails", 0), ("fails", 0)))

    def test_one_word(self):
        self.schema = WORDS

        def split(v, one=("fails", 0), other=("fails", 0)):
            return ("split", ("least", "u", v), one, other)

        self.check(["u < 'b and u > 'b"], split("b"))
        # No word is between a and aa.
        self.check(["u = 'a and u > 'a"], split("aa"))
        self.check(["u = 'azzzzzzz and u > 'azzzzzzz"], split("b"))
        self.refuse(["u = 'azzzzzzy and u > 'azzzzzzy"], split("b"))
        self.check([f"u = '{LAST} and u <> '{LAST}"], split(LAST))
        self.check(["u < 'a"], ("fails", 0))
        self.check([f"not u <= '{LAST}"], ("fails", 0))
        self.check(["u in ( 'a 'aa ) and u >= 'aaa"], split("aaa"))

    def test_parameters(self):
        true = ["a < $1 and a > $1"]
        tree = ("split", ("below", "$1", "a", 0), ("fails", 0), ("fails", 0))
        self.refuse(true, tree)
        self.check(true, ("split", ("some", "$1"), tree, ("fails", 0)))
        self.check(true, ("split", ("null", "$1"), ("fails", 0), tree))
        self.refuse(["a < $1", "b = b"], ("split", ("null", "$2"), ("fails", 0), ("fails", 0)))
        # One value for all conditions.
        self.check(["a < $1", "a > $1"], ("split", ("null", "$1"), ("fails", 0), (
            "split", ("below", "$1", "a", 0), ("fails", 0), ("fails", 1))))


class SplitTest(Checks):
    """Which assumptions are right, before two trees that hold without them."""

    def check_assumption(self, assumption, due=True, under=None):
        true = ["a < a", "o = $1 or o <> $1"]
        tree = ("split", assumption, ("fails", 0), ("fails", 0))
        if under is not None:
            tree = ("split", under, tree, ("fails", 0))
        self.check(true, tree, due)

    def test_null_and_some(self):
        for kind in ("null", "some"):
            for name in ("a", "b", "o", "$1"):
                self.check_assumption((kind, name))
            for name in ("x", "$2", "u", "", None, 1, ("a",), True, ["a"]):
                self.check_assumption((kind, name), False)
            for wrong in ((kind,), (kind, "a", 1), (kind, "a", "b"), [kind, "a"], kind, (kind, "a", None)):
                self.check_assumption(wrong, False)

    def test_least_and_less(self):
        for kind in ("least", "less"):
            for value in (0, 1, -1, TOP, -TOP):
                self.check_assumption((kind, "a", value))
            for value in ANY_VALUES + [TOP + 1, -TOP - 1, "a"]:
                is_number = type(value) is int and abs(value) <= TOP
                self.check_assumption((kind, "a", value), is_number)
            for wrong in ((kind, "a"), (kind, "a", 1, 2), (kind, "x", 1), (kind, None, 1), [kind, "a", 1]):
                self.check_assumption(wrong, False)

    def test_unknowns_that_may_be_none(self):
        for name in ("o", "$1"):
            for assumption in (
                ("least", name, 1), ("less", name, 1), ("rests", name, (1,)), ("below", name, "a", 1),
                ("below", "a", name, 1), ("above", name, "a", 1), ("above", "a", name, 1),
            ):
                self.check_assumption(assumption, False)
                self.check_assumption(assumption, False, ("null", name))
                self.check_assumption(assumption, True, ("some", name))
                self.check_assumption(assumption, False, ("some", "o" if name == "$1" else "$1"))

    def test_below_and_above(self):
        for kind in ("below", "above"):
            for n in (0, 5, -5, TOP + 1, 10 ** 40 - 1, 1 - 10 ** 40):
                self.check_assumption((kind, "a", "b", n))
            for n in (10 ** 40, -10 ** 40, True, False, None, "0", (0,)):
                self.check_assumption((kind, "a", "b", n), False)
            for wrong in (
                (kind, "a", "a", 0), (kind, "a", "x", 0), (kind, "x", "a", 0), (kind, "a", "b"), (kind, "a", 0),
                (kind, "a", "b", 0, 0), (kind, "a", None, 0), (kind, ("a",), "b", 0), [kind, "a", "b", 0],
            ):
                self.check_assumption(wrong, False)

    def test_rests(self):
        for rests in ((0,), (59,), (0, 59), EVENS, ODDS, tuple(range(59)), tuple(range(1, 60))):
            self.check_assumption(("rests", "a", rests))
        for rests in (
            (), tuple(range(60)), (60,), (-1,), (1, 1), (2, 1), (True,), (0, True), [1], "1", 1, None, ((1,),), (1, None),
            (1, "2"),
        ):
            self.check_assumption(("rests", "a", rests), False)
        for wrong in (("rests", "a"), ("rests", "a", (1,), 2), ("rests", "x", (1,)), ("rests", "a", 1, 2)):
            self.check_assumption(wrong, False)

    def test_other_assumptions(self):
        for value in ANY_VALUES + [("equal", "a", 1), ("LEAST", "a", 1), ("", "a"), (None, "a"), (("null",), "a"), (
                ["null"], "a"), ({}, "a"), ([], "a", 1), ({}, "a", "b", 0), ("null", ["a"]), ("null", {})]:
            self.check_assumption(value, False)

    def test_of_words(self):
        self.schema = WORDS
        true = ["u < u"]

        def tree(assumption):
            return ("split", assumption, ("fails", 0), ("fails", 0))

        for value in ("a", LAST, "abcdefgh", "and"):
            self.check(true, tree(("least", "u", value)))
            self.check(true, tree(("less", "u", value)))
        for value in ("", "A", "abcdefghi", "'a", 1, None, True, ("a",)):
            self.refuse(true, tree(("least", "u", value)))
        for kind in ("below", "above"):
            self.check(true, tree((kind, "u", "v", 0)))
            for n in (1, -1, False, None, "0"):
                self.refuse(true, tree((kind, "u", "v", n)))
        self.refuse(true, tree(("rests", "u", (1,))))

    def test_unknowns_of_two_kinds(self):
        self.schema = Schema(Column("a", "number", is_required=True), Column("u", "word", is_required=True))
        for kind in ("below", "above"):
            self.refuse(["a < a"], ("split", (kind, "a", "u", 0), ("fails", 0), ("fails", 0)))
        self.refuse(["a < a"], ("split", ("least", "a", "u"), ("fails", 0), ("fails", 0)))
        self.check(["a < a"], ("split", ("least", "u", "u"), ("fails", 0), ("fails", 0)))

    def test_forms(self):
        true = ["a < a"]
        end = ("fails", 0)
        self.check(true, ("split", ("null", "o"), end, ("split", ("null", "o"), end, end)))
        for wrong in (
            ("split", ("null", "o"), end), ("split", ("null", "o"), end, end, end), ("split", end, end), ("split",),
            ["split", ("null", "o"), end, end], ("split", ("null", "o"), end, ["fails", 0]), ("Split", ("null", "o"),
            end, end), ("split", ("null", "o"), None, end), ("split", ("null", "o"), end, ()), (end, end),
        ):
            self.refuse(true, wrong)

    def test_opposites(self):
        # Each tree needs what the opposite says.
        for true, assumption in [
            (["o = 1 and o is null"], ("null", "o")),
            (["o = 1 and o is null"], ("some", "o")),
            (["a < 5 and a > 4"], ("least", "a", 5)),
            (["a < 5 and a > 4"], ("less", "a", 5)),
            (["a > b + 3 and a <= b + 3"], ("below", "a", "b", 3)),
            (["a > b + 3 and a <= b + 3"], ("above", "a", "b", 3)),
            (["a rest 2 0 and a rest 2 1"], ("rests", "a", EVENS)),
            (["a rest 2 0 and a rest 2 1"], ("rests", "a", ODDS)),
        ]:
            self.check(true, ("split", assumption, ("fails", 0), ("fails", 0)))


class WalkTest(Checks):
    def check_walk(self, assumptions, steps, due=True):
        """Whether the steps lead out under the assumptions, which are all made from one tree."""
        tree = ("walk", steps)
        # The other sides fail at once, so the walk decides.
        for assumption in reversed(assumptions):
            tree = ("split", assumption, tree, ("fails", 0))
        self.check(["a < a", "b = $1"] if self.schema == NUMBERS else ["u < u"], tree, due)

    def test_limits(self):
        for v, w, due in [(5, 5, True), (5, 4, True), (5, 6, False), (TOP, -TOP, True), (-TOP, TOP, False)]:
            made = [("least", "a", v), ("less", "a", w)]
            self.check_walk(made, tuple(made), due)
            self.check_walk(made, tuple(reversed(made)), False)
            self.check_walk(made, list(made), False)
        self.check_walk([("less", "a", -TOP)], (("some", "a"), ("less", "a", -TOP)))
        self.check_walk([("less", "a", 1 - TOP)], (("some", "a"), ("less", "a", 1 - TOP)), False)

    def test_what_was_assumed(self):
        made = [("least", "a", 5), ("less", "a", 5)]
        self.check_walk(made, (("least", "a", 6), ("less", "a", 5)), False)
        self.check_walk(made, (("least", "a", 5), ("less", "a", 4)), False)
        self.check_walk(made[:1], tuple(made), False)
        self.check_walk([("below", "a", "b", 0), ("less", "a", 5), ("least", "a", 5)], (
            ("least", "a", 5), ("above", "a", "b", 0), ("less", "b", 5)), False)
        # The same difference, but in other words.
        made = [("least", "a", 5), ("below", "a", "b", -3), ("less", "b", 8)]
        self.check_walk(made, tuple(made))
        self.check_walk(made, (made[0], ("above", "b", "a", 2), made[2]), False)
        self.check_walk([made[0], ("above", "b", "a", 2), made[2]], (made[0], ("above", "b", "a", 2), made[2]))

    def test_an_opposite_is_made(self):
        self.check(["a < a"], ("split", ("less", "a", 5), ("split", ("least", "a", 5), (
            "walk", (("least", "a", 5), ("less", "a", 5))), ("fails", 0)), ("split", ("less", "a", 5), (
            "walk", (("least", "a", 5), ("less", "a", 5))), ("fails", 0))))

    def test_made_on_the_other_side(self):
        tree = ("walk", (("least", "a", 5), ("less", "a", 5)))
        self.refuse(["a < a"], ("split", ("null", "o"), ("split", ("least", "a", 5), ("fails", 0), ("fails", 0)), (
            "split", ("less", "a", 5), tree, ("fails", 0))))

    def test_some(self):
        made = [("some", "o"), ("less", "o", -TOP)]
        self.check_walk(made, tuple(made))
        self.check_walk([("some", "$1"), ("less", "$1", -TOP)], (("some", "$1"), ("less", "$1", -TOP)))
        made = [("some", "o"), ("least", "o", TOP), ("rests", "o", (0,))]
        self.check_walk(made, (("least", "o", TOP), ("some", "o")))
        # For required columns only, some need not be made.
        self.check_walk([("least", "a", TOP), ("above", "b", "a", 0)], (
            ("least", "a", TOP), ("above", "b", "a", 0), ("some", "b")))
        self.check_walk([("least", "a", TOP), ("above", "b", "a", 0)], (
            ("least", "a", TOP), ("above", "b", "a", 0), ("some", "a")), False)
        self.check_walk([("least", "a", TOP), ("below", "a", "b", 0)], (
            ("least", "a", TOP), ("below", "a", "b", 0), ("some", "b")), False)
        self.check_walk([], (("some", "a"), ("some", "a")), False)
        self.check_walk([], (("some", "a"),), False)
        self.check_walk([], (("some", "o"), ("less", "o", -TOP)), False)
        self.check_walk([], (), False)

    def test_where_it_begins(self):
        for first in (("less", "a", -TOP), ("rests", "a", EVENS), ("below", "a", "b", 0), ("above", "a", "b", 0), ("null", "a")):
            made = [first, ("less", "a", -TOP)]
            self.check_walk(made, tuple(made), False)

    def test_edges(self):
        made = [("least", "a", 5), ("below", "a", "b", 2), ("above", "c", "b", 3), ("less", "c", 7)]
        # a >= 5, b >= 3, c >= 7.
        self.check_walk(made, tuple(made))
        self.check_walk(made[:3] + [("less", "c", 8)], tuple(made[:3]) + (("less", "c", 8),), False)
        self.check_walk(made, (made[0], made[2], made[1], made[3]), False)
        self.check_walk(made, (made[0], made[1], made[3]), False)
        self.check_walk(made, tuple(made[:3]), False)
        self.check_walk(made, tuple(made[1:]), False)
        # An edge leads on from the unknown that was reached.
        made = [("least", "a", 5), ("below", "b", "c", 0), ("less", "c", 5)]
        self.check_walk(made, tuple(made), False)
        # The other way around, an edge leads nowhere.
        made = [("least", "b", 5), ("below", "a", "b", 2), ("less", "a", -TOP)]
        self.check_walk(made, tuple(made), False)
        made = [("least", "c", 5), ("above", "c", "b", 3), ("less", "b", -TOP)]
        self.check_walk(made, tuple(made), False)

    def test_rests(self):
        for rests, limit, due in [((7,), 7, True), ((7,), 8, False), ((4,), 64, True), ((4,), 65, False), (
                EVENS, 6, True), (ODDS, 6, False)]:
            made = [("least", "a", 5), ("rests", "a", rests), ("less", "a", limit)]
            self.check_walk(made, (made[0], made[2]), due)
        # At each unknown on the way.
        made = [("least", "a", 5), ("rests", "a", (10,)), ("below", "a", "b", 0), ("rests", "b", (5, 9)), ("below", "b",
                "c", 0), ("rests", "c", ODDS), ("less", "c", 65)]
        steps = (made[0], made[2], made[4], made[6])
        self.check_walk(made, steps)
        self.check_walk([step for step in made if step != ("rests", "b", (5, 9))], steps, False)
        # All of them at once, and there must be a number.
        made = [("least", "a", 1), ("rests", "a", EVENS), ("rests", "a", (1, 8)), ("less", "a", 8)]
        self.check_walk(made, (made[0], made[3]))
        nothing = [("rests", "a", EVENS), ("rests", "a", ODDS)]
        made = [("least", "a", 1), ("less", "a", 1)]
        self.check_walk(nothing + made, tuple(made), False)
        made = [("least", "b", 1), ("below", "b", "a", 0), ("below", "a", "c", 0), ("less", "c", 1)]
        self.check_walk(nothing + made, tuple(made), False)
        made = [("below", "b", "a", 0), ("above", "b", "a", 59)]
        self.check_walk(made, (("some", "b"),) + tuple(made))
        self.check_walk(nothing + made, (("some", "b"),) + tuple(made), False)
        made = [("below", "b", "c", 0), ("below", "c", "a", 0)]
        self.check_walk(nothing + made, (("some", "b"),) + tuple(made), False)

    def test_rings(self):
        made = [("above", "b", "a", 14), ("above", "a", "b", 14)]
        # Each turn around gains 30.
        self.check_walk(made, (("some", "a"),) + tuple(made) * 2)
        self.check_walk(made, (("some", "a"),) + tuple(made), False)
        self.check_walk(made, (("some", "a"),) + tuple(made) * 3)
        made = [("above", "b", "a", 0), ("below", "b", "a", 0)]
        self.check_walk(made, (("some", "a"),) + tuple(made) * 60)
        self.check_walk(made, (("some", "a"),) + tuple(made) * 59, False)
        # Without a gain, and with a loss.
        for n in (0, 1):
            made = [("below", "a", "b", 0), ("below", "b", "a", n)]
            self.check_walk(made, (("some", "a"),) + tuple(made) * 60, False)
        # The ring may begin later.
        made = [("below", "c", "a", 5), ("above", "b", "a", 59), ("below", "b", "a", 0)]
        self.check_walk(made, (("some", "c"),) + tuple(made))
        self.check_walk(made, (("some", "c"),) + tuple(made) + (("some", "a"),), False)

    def test_rings_with_rests(self):
        made = [("rests", "a", (0,)), ("rests", "b", (1,)), ("below", "a", "b", 0), ("below", "b", "a", 0)]
        self.check_walk(made, (("some", "a"),) + tuple(made[2:]))
        made[3] = ("below", "b", "a", 1)
        self.check_walk(made, (("some", "a"),) + tuple(made[2:]), False)

    def test_of_words(self):
        self.schema = WORDS
        made = [("above", "v", "u", 0), ("below", "v", "u", 0)]
        self.check_walk(made, (("some", "u"),) + tuple(made))
        self.check_walk([("below", "u", "v", 0), made[1]], (("some", "u"), ("below", "u", "v", 0), made[1]), False)
        for word, limit, due in [("a", "aa", True), ("a", "aaa", False), ("azzzzzzz", "b", True), ("zzzzzzzy", LAST, True), (
                "b", "b", True)]:
            made = [("least", "u", word), ("above", "v", "u", 0), ("less", "v", limit)]
            self.check_walk(made, tuple(made), due)
        made = [("least", "u", LAST), ("above", "v", "u", 0)]
        self.check_walk(made, tuple(made) + (("some", "v"),))
        self.check_walk([("least", "u", "zzzzzzzy"), made[1]], (("least", "u", "zzzzzzzy"), made[1], ("some", "v")), False)
        self.check_walk([("less", "u", "a")], (("some", "u"), ("less", "u", "a")))
        self.check_walk([("less", "u", "aa")], (("some", "u"), ("less", "u", "aa")), False)

    def test_steps_of_other_kinds(self):
        made = [("least", "a", 1), ("less", "a", 1)]
        for wrong in (
            (("least", "a", True), made[1]), (made[0], ("less", "a", True)), (made[0], None), (None, made[1]),
            (list(made[0]), made[1]), (made[0], made[0], made[1]), (made[0], ("null", "a"), made[1]), "ab", None, 5,
            (made[0], made[1], made[1]), ((), ()), ({}, []), (made[0] + (1,), made[1]),
        ):
            self.check_walk(made, wrong, False)
        self.check_walk(made, tuple(made))
        for wrong in (("walk", tuple(made), ()), ("walks", tuple(made)), ("", tuple(made)), (None, tuple(made)), tuple(made), (
                "walk", *made), (tuple(made), "walk"), ["walk", tuple(made)]):
            tree = ("split", made[0], ("split", made[1], wrong, ("fails", 0)), ("fails", 0))
            self.refuse(["a < a"], tree)


class AnyValueTest(Checks):
    def test_values_of_every_kind(self):
        for value in ANY_VALUES:
            self.refuse(["a < a"], value)
            self.refuse(["a < a"], ("fails", value) if value != 0 else ("fails", 7))
            self.refuse(["a < a"], ("walk", value))
            self.refuse(["a < a"], ("split", value, ("fails", 0), ("fails", 0)))
            self.refuse(["a < a"], ("split", ("null", "o"), ("fails", 0), value))
            self.refuse(["a < a"], (value, 0))

    def test_deep_trees(self):
        true = conditions(NUMBERS, ["a < 5 and a >= 5"])
        end = reason(NUMBERS, true)
        tree = end
        for k in range(20000):
            tree = ("split", ("some", "o"), tree, end) if k % 2 else ("split", ("null", "a"), ("fails", 0), tree)
        self.assertIs(is_reason(NUMBERS, true, (), tree), True)
        self.assertIs(is_reason(NUMBERS, true, (), ("split", ("null", "o"), tree, ("fails", 1))), False)

    def test_deep_nonsense(self):
        deep = ()
        for _ in range(50000):
            deep = (deep,)
        for value in (
            deep, ("fails", deep), ("walk", deep), ("walk", (deep, deep)), ("split", deep, ("fails", 0), ("fails", 0)),
            ("split", ("least", "a", deep), ("fails", 0), ("fails", 0)), ("split", ("null", deep), deep, deep),
            ("split", ("rests", "a", deep), deep, deep), ("walk", (("least", "a", deep), ("less", "a", deep))),
        ):
            self.assertIs(is_reason(NUMBERS, conditions(NUMBERS, ["a < a"]), [], value), False)

    def test_value_is_not_changed(self):
        value = ["split", ["null", "o"], {"fails": 0}]
        kept = Kept(value)
        is_reason(NUMBERS, conditions(NUMBERS, ["a < a"]), [], value)
        is_reason(NUMBERS, conditions(NUMBERS, ["a < a"]), [], ("split", ("null", "o"), value, value))
        self.assertTrue(kept.is_kept())


class ErrorsTest(unittest.TestCase):
    def test_errors(self):
        schema = Schema(Column("a", "number"), Column("w", "word"))
        other = Condition(Schema(Column("a", "number")), "a = $1")
        number, word = conditions(schema, ["a = $1", "w = $1"])
        for error, true, kept in [
            (OtherSchema, [other], []),
            (OtherSchema, [], [other]),
            (OtherSchema, [number, word], [other]),
            (InvalidParameters, [number, word], []),
            (InvalidParameters, (number,), (word,)),
        ]:
            self.assertIs(type(raised(lambda: reason(schema, true, kept))), error)
            for value in (None, ("fails", 0), 5, ()):
                self.assertIs(type(raised(lambda: is_reason(schema, true, kept, value))), error)


class ReasonTest(unittest.TestCase):
    """The reasons that the program finds."""

    def check(self, schema, true, kept=()):
        found = reason(schema, true, kept)
        told = ([one.text for one in true], [one.text for one in kept], found)
        if possible(schema, true, kept) is not None:
            self.assertIsNone(found, told)
            return None
        self.assertTrue(is_tree(found), told)
        self.assertIs(is_reason(schema, true, kept, found), True, told)
        self.assertIs(plain.Reasons(schema, true, kept).accepts(found), True, told)
        return found

    def test_special_cases(self):
        for text in (
            "a < b and b < a", "a < b and b < c and c < a", "a <= b and b <= c and c < a", "a = b + 1 and b = a",
            f"a <= b - {TOP} and b <= a + {TOP - 1}", f"a = b + {TOP} and b = c + {TOP} and c > -{TOP}",
            "a = b and a rest 60 7 and b rest 60 9", "a < b and b < a + 2 and a rest 2 0 and b rest 2 0",
            "a <= b and b <= a + 1 and a rest 60 7 and b rest 60 9", f"a rest 60 39 and a > {TOP - 1}",
            "a < b and b < a and a rest 4 1", "a < b and b < a and b rest 60 7 and a > 0", "a < b and b < c and c < a + 2 "
            "and c rest 3 0", "b rest 5 0 and a < b and b < c and c <= a + 1 and a rest 4 3", "a < b and b < c and c < a and "
            "a rest 4 1 and b rest 15 2 and c rest 6 5", "a < b and b < c and c < 3 and a > 0", "a in ( 1 9 ) and b in ( 20 40 ) and b = a + 12",
            "a < $1 and b > $1 and b < a + 2", "o = $1 and o <> $1",
            "o < o", "o is null and o = o", "a rest 4 1 and a rest 6 2", f"a > b + {TOP} and c > a + {TOP} and b > -{TOP}",
            "a <> b and b <> c and c <> a and a in ( 1 5 ) and b in ( 1 5 ) and c in ( 1 5 )",
        ):
            self.assertIsNotNone(self.check(NUMBERS, conditions(NUMBERS, [text])), text)
        for text in (
            "u < v and v < w and w < u", "u <= v and v <= w and w < u", "u < 'a", "u < v and v < 'aa and w = w",
            "u > 'zzzzzzzy and v > u and w = v", "u > 'a and u < 'aa", "u < v and v <= 'b and u >= 'azzzzzzz and p = p "
            "and u <> 'azzzzzzz", "p < $1 and p > $2 and u = $2 and u = $1",
        ):
            self.assertIsNotNone(self.check(WORDS, conditions(WORDS, [text])), text)

    def test_several_conditions(self):
        true = conditions(NUMBERS, ["a = $1", "b = $1", "a <> b"])
        self.assertIsNotNone(self.check(NUMBERS, true))
        self.assertIsNotNone(self.check(NUMBERS, true[:2], conditions(NUMBERS, ["not a = b"])))
        self.assertIsNone(self.check(NUMBERS, [], conditions(NUMBERS, ["o = 1", "o <> 1"])))
        self.assertIsNotNone(self.check(NUMBERS, conditions(NUMBERS, ["o is not null"]), conditions(NUMBERS, [
            "o = 1", "o <> 1"])))

    def test_conditions_that_are_partly_refused(self):
        ring = ["a < c and c < b"]
        for text in (
            "a < o or a > b", "o < a or a > b", "o = 5 or a > b", "o rest 2 0 or a > b", "o > $1 or a > b",
            "not ( o is not null or a <= b )", "a > b or o is not null",
        ):
            self.assertIsNotNone(self.check(NUMBERS, conditions(NUMBERS, ["o is null", text] + ring)), text)
        for text in ("a rest 2 1 or a > b", "a rest 4 1 or a = b", "not a rest 2 0 or not a <= b"):
            self.assertIsNotNone(self.check(NUMBERS, conditions(NUMBERS, ["a rest 2 0", text] + ring)), text)

    def test_rings_that_gain_now_and_then(self):
        for modulus, remainder in [(2, 0), (2, 1), (3, 0), (3, 1), (3, 2), (4, 0), (4, 1), (4, 3), (4, 2), (60, 20), (60, 21)]:
            for name in "ab":
                text = f"not {name} rest {modulus} {remainder} and a <= b and b < a"
                self.assertIsNotNone(self.check(NUMBERS, conditions(NUMBERS, [text])), text)
                text = f"not a rest 5 0 and not {name} rest {modulus} {remainder} and b < a and a <= b + 2 and b > a - 1"
                self.check(NUMBERS, conditions(NUMBERS, [text]))

        for text in (
            "not b rest 4 0 and not a rest 4 2 and not a rest 4 3 and b <= a - 3 and c <= b - 3 and a <= c - 3",
            "not a rest 3 1 and not a rest 3 2 and not b rest 3 0 and c <= b - 3 and a <= c + 1 and b <= a - 2",
            "not c rest 12 9 and not b rest 12 7 and not c rest 12 10 and a <= c - 1 and b <= a - 3 and c <= b + 1",
            "not c rest 6 4 and not b rest 6 2 and not b rest 6 3 and b <= a - 3 and c <= b - 3 and a <= c - 2",
            "not c rest 3 0 and not a rest 3 1 and not a rest 3 2 and a <= b - 1 and b <= c - 1 and c <= a - 2",
        ):
            self.assertIsNotNone(self.check(NUMBERS, conditions(NUMBERS, [text])), text)

    def test_nothing_to_find(self):
        self.assertIsNone(reason(NUMBERS))
        self.assertIsNone(reason(schema=WORDS, kept=(), true=[]))
        self.assertIs(is_reason(NUMBERS, [], [], ("fails", 0)), False)
        self.assertIs(is_reason(schema=NUMBERS, kept=[], value=("walk", ()), true=()), False)

    def test_random_conditions(self):
        chooser = random.Random(23)
        found = []
        while len(found) < 600:
            schema = random_schema(chooser, 4)
            true = [random_condition(chooser, schema, chooser.randint(1, 4)) for _ in range(chooser.randint(0, 3))]
            kept = [random_condition(chooser, schema, chooser.randint(1, 4)) for _ in range(chooser.randint(0, 3))]
            if raised(lambda: reason(schema, true, kept)) is None:
                found.append(self.check(schema, true, kept))
        self.assertGreater(found.count(None), 100)
        self.assertGreater(len(found) - found.count(None), 100)


def is_tree(value):
    """Whether the value consists of nothing but tuples, strings and integers."""
    if type(value) is tuple:
        return all(is_tree(entry) for entry in value)
    return type(value) in (str, int)


class ChangedReasonsTest(unittest.TestCase):
    """Reasons that have been changed at one place, and the second reading of the document."""

    SIGNS = "< <= > >=".split()

    def literal(self, chooser, schema):
        """An atom that makes up rings and walks."""
        column, other = chooser.choice(schema.columns), chooser.choice(schema.columns)
        sign = chooser.choice(self.SIGNS)
        if column.kind == "word":
            return chooser.choice([
                f"{column.name} {sign} {other.name}", f"{column.name} {sign} '" + chooser.choice(["a", "aa", "b", LAST]),
            ])
        more = chooser.choice([1, 2, 7, 30, 60, TOP])
        modulus = chooser.choice([2, 3, 12, 60])
        value = chooser.choice([0, 5, TOP, -TOP, TOP - 3, 3 - TOP])
        return chooser.choice([
            f"{column.name} {sign} {other.name} {chooser.choice('+-')} {more}",
            f"{column.name} {sign} {other.name} {chooser.choice('+-')} {more}",
            f"{column.name} rest {modulus} {chooser.randrange(modulus)}",
            f"{column.name} {sign} $1",
            f"{column.name} {sign} {value}",
        ])

    def check(self, chooser, schema, true, kept):
        found = reason(schema, true, kept)
        if found is None:
            return 0
        reading = plain.Reasons(schema, true, kept)
        refused = 0
        for _ in range(8):
            value = changed(chooser, found, schema.names)
            due = reading.accepts(value)
            told = ([one.text for one in true], [one.text for one in kept], value)
            self.assertIs(is_reason(schema, true, kept, value), due, told)
            refused += not due
        return refused

    def test_random_conditions(self):
        chooser = random.Random(24)
        refused = 0
        for _ in range(200):
            schema = random_schema(chooser, 3)
            true = [random_condition(chooser, schema, chooser.randint(2, 5)) for _ in range(2)]
            kept = [random_condition(chooser, schema, chooser.randint(2, 4))]
            if raised(lambda: reason(schema, true, kept)) is None:
                refused += self.check(chooser, schema, true, kept)
        self.assertGreater(refused, 200)

    def test_rings(self):
        chooser = random.Random(25)
        refused = 0
        for kind in ["number", "number", "word"] * 60:
            schema = random_schema(chooser, 4, [kind])
            texts = [" and ".join([self.literal(chooser, schema) for _ in range(chooser.randint(2, 6))])]
            refused += self.check(chooser, schema, conditions(schema, texts), [])
        self.assertGreater(refused, 200)


def places_of(value, path=()):
    """The paths to all values within a tree."""
    yield path
    if isinstance(value, tuple):
        for at, entry in enumerate(value):
            yield from places_of(entry, path + (at,))


def at_path(value, path):
    for at in path:
        value = value[at]
    return value


def replaced(value, path, entry):
    if not path:
        return entry
    at = path[0]
    return value[:at] + (replaced(value[at], path[1:], entry),) + value[at + 1:]


def changed(chooser, value, names):
    """The tree with a change at one place."""
    path = chooser.choice(list(places_of(value)))
    entry = at_path(value, path)
    if isinstance(entry, int):
        other = chooser.choice([entry + 1, entry - 1, -entry, entry + 60, 0, True, None, str(entry), entry * 10 ** 12])
    elif isinstance(entry, str):
        words = "null some least less below above rests split fails walk $1 a aa b".split()
        other = chooser.choice(words + list(names) + [LAST, 1, None, entry + "a"])
    else:
        at = chooser.randrange(len(entry))
        other = chooser.choice([
            list(entry), entry + entry[-1:], entry[:-1], entry[::-1], entry[:at] + entry[at + 1:],
            entry[:at] + entry[at:at + 1] + entry[at:], (), None, entry[at],
        ])
    return replaced(value, path, other)


if __name__ == "__main__":
    unittest.main()
