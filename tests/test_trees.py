"""Points 40 to 43: tables, parts, checks, keys, possible rows."""

import types
import unittest

from partwise.bounds import Default, Range, Rest, Values
from partwise.columns import Column, Schema
from partwise.cuts import Cut
from partwise.errors import (
    CheckExists, CheckFails, DuplicateKey, InDefault, InvalidBound, InvalidCut, InvalidKey, InvalidName, InvalidRow,
    InvalidText, KeyExists, KeyTooSmall, NoPart, NotCut, NotTop, Overlap, TableExists, TooMany, UnknownCheck,
    UnknownColumn, UnknownKey, UnknownTable,
)
from partwise.store import Store
from tests.samples import ANY_VALUES, RESERVED, EqualToAll
from tests.stores import EXAMPLE, LAST, TOP, StoreTest, store_of

SCHEMA = Schema(Column("a", "number"), Column("b", "number", is_required=True), Column("w", "word"))


class ExampleTest(unittest.TestCase):
    def test_example(self):
        store = store_of(*EXAMPLE)
        self.assertEqual(
            [store.leaves_of('t'), list(store.rows_of('hi')), store.leaf_of('t', (30, 'q'))],
            [('hx', 'hy', 'lo'), [(12, None), (15, 'y'), (20, 'x')], 'hy'],
        )

    def test_properties_and_questions(self):
        store = store_of(*EXAMPLE, "create s b:number")
        self.assertEqual(store.names, ("hi", "hx", "hy", "lo", "s", "t"))
        self.assertEqual(store.tops, ("s", "t"))
        self.assertEqual(store.schema_of("hx"), Schema(Column("a", "number", is_required=True), Column("w", "word")))
        self.assertEqual(store.cut_of("hi"), Cut("values", "w"))
        self.assertIsNone(store.cut_of("hx"))
        self.assertEqual(store.bound_of("hi"), Range((10,), (100,)))
        self.assertEqual(store.bound_of("hy"), Default())
        self.assertIsNone(store.bound_of("t"))
        self.assertEqual((store.parent_of("hx"), store.parent_of("t")), ("hi", None))
        self.assertEqual((store.parts_of("t"), store.parts_of("hx")), (("hi", "lo"), ()))
        self.assertEqual((store.leaves_of("lo"), store.leaves_of("hi")), (("lo",), ("hx", "hy")))
        self.assertEqual([store.count_rows(name) for name in ("t", "hi", "hx", "lo", "s")], [5, 3, 2, 2, 0])
        self.assertIsInstance(store.rows_of("t"), types.GeneratorType)
        self.assertEqual(list(store.rows_of("t")), [(1, "x"), (3, None), (12, None), (15, "y"), (20, "x")])
        self.assertEqual((store.checks_of("t"), store.keys_of("t"), store.keys_of("hx")), ({}, (), ()))

    def test_unknown_tables(self):
        store = store_of(*EXAMPLE)
        for value in ANY_VALUES + ["tt", "T", ("t",), ["t"]]:
            for call in (
                lambda: store.schema_of(value), lambda: store.cut_of(value), lambda: store.bound_of(value),
                lambda: store.parent_of(value), lambda: store.parts_of(value), lambda: store.leaves_of(value),
                lambda: list(store.rows_of(value)), lambda: store.count_rows(value), lambda: store.checks_of(value),
                lambda: store.keys_of(value), lambda: store.possible_row(value), lambda: store.leaf_of(value, 5),
                lambda: store.drop(value), lambda: store.add_check(value, 5, 5), lambda: store.drop_check(value, 5),
                lambda: store.add_key(value, 5), lambda: store.drop_key(value, 5),
                lambda: store.create_part(5, value, Default(), Cut("range", "x")),
            ):
                self.refuse(store, call, UnknownTable, value=value)

    refuse = StoreTest.refuse

    def test_an_empty_store(self):
        store = Store()
        self.assertEqual((store.names, store.tops, store.looked, store.steps), ((), (), (), 0))
        self.assertIs(store == EqualToAll(), False)


class CreateTest(StoreTest):
    def test_results(self):
        store = Store()
        self.assertIsNone(store.create("t", SCHEMA))
        self.assertIsNone(store.create(name="part", schema=SCHEMA, cut=Cut("range", "w", "a")))
        self.assertEqual(store.tops, ("part", "t"))
        self.assertEqual(store.cut_of("part"), Cut("range", "w", "a"))
        self.assertEqual((store.leaves_of("part"), store.leaves_of("t")), ((), ("t",)))
        self.assertEqual(store.steps, 2)

    def test_names(self):
        store = store_of("create t a:number")
        for value in ANY_VALUES + RESERVED + ["lowercase"]:
            if value not in ("a", "name", "number", "word"):
                self.refuse(store, lambda: store.create(value, SCHEMA, Cut("range", "x")), InvalidName, value=value)
        self.refuse(store, lambda: store.create("t", SCHEMA, Cut("range", "x")), TableExists, table="t")

    def test_cuts(self):
        store = Store()
        for cut, column in [
            (Cut("range", "x"), "x"), (Cut("range", "a", "y"), "y"), (Cut("range", "y", "x"), "y"), (Cut("rest", "z"), "z"),
        ]:
            self.refuse(store, lambda: store.create("t", SCHEMA, cut), UnknownColumn, value=column)
        self.refuse(store, lambda: store.create("t", SCHEMA, Cut("rest", "w")), InvalidCut)
        store.create("t", SCHEMA, Cut("rest", "b"))

    def test_forty_tables(self):
        names = [one + other for one in "abcdefghij" for other in "vwxz"]
        store = store_of(*[f"create {name} a:number by range a" for name in names])
        self.assertEqual(len(store.names), 40)
        self.refuse(store, lambda: store.create("t", SCHEMA, Cut("range", "x")), TooMany, limit=40)
        self.refuse(store, lambda: store.create("av", SCHEMA), TableExists, table="av")
        self.refuse(store, lambda: store.create_part("t", "av", Values(1), Cut("range", "x")), TooMany, limit=40)
        store.drop("aw")
        store.create_part("t", "av", Range((1,), (2,)))
        self.refuse(store, lambda: store.create_part("u", "av", Range((1,), (2,))), TooMany, limit=40)


class CreatePartTest(StoreTest):
    def test_each_error_and_the_next_one(self):
        store = store_of("create t a:number b:number! w:word by range a", "part p of t range 0 to 10", "key t a w",
                         "part d of t default", "insert t 50 1 'x")
        bad_cut, rest = Cut("range", "b", "x"), Rest(2, 0)
        overlapping = Range((5,), (60,))
        for arguments, error, fields in [
            ((5, "p", rest, bad_cut), NotCut, {"table": "p"}),
            ((5, "t", rest, bad_cut), InvalidName, {"value": 5}),
            (("p", "t", rest, bad_cut), TableExists, {"table": "p"}),
            (("q", "t", rest, bad_cut), UnknownColumn, {"value": "x"}),
            (("q", "t", rest, Cut("rest", "w")), InvalidCut, {}),
            (("q", "t", rest, Cut("rest", "b")), InvalidBound, {}),
            (("q", "t", overlapping, Cut("rest", "b")), Overlap, {"part": "p"}),
            (("q", "t", Default(), Cut("rest", "b")), Overlap, {"part": "d"}),
            (("q", "t", Range((10,), (60,)), Cut("rest", "b")), KeyTooSmall, {"column": "b"}),
            (("q", "t", Range((10,), (60,)), Cut("rest", "a")), InDefault, {"row": (50, 1, "x")}),
        ]:
            self.refuse(store, lambda: store.create_part(*arguments), error, **fields)
        self.assertEqual(store.create_part("q", "t", Range((10,), (50,)), Cut("rest", "a")), 1)

    def test_too_many(self):
        store = store_of("create t a:number by range a", *[f"part p{x} of t range {k} to {k + 1} by range a"
                                                           for k, x in enumerate("abcde")])
        store.create_part("pf", "t", Default(), Cut("range", "a"))
        self.refuse(store, lambda: store.create_part("pg", "t", Values(1)), InvalidBound)
        self.refuse(store, lambda: store.create_part("pg", "t", Range((0,), (9,))), TooMany, limit=6)
        store.create_part("q", "pa", Default(), Cut("range", "a"))
        store.create_part("r", "q", Default())
        self.refuse(store, lambda: store.create_part("s", "q", Values(1), Cut("range", "a")), InvalidBound)
        self.refuse(store, lambda: store.create_part("s", "q", Default(), Cut("range", "a")), TooMany, limit=3)
        self.refuse(store, lambda: store.create_part("s", "q", Default()), Overlap, part="r")
        self.assertEqual(store.leaves_of("t"), ("r",))

    def test_both_limits(self):
        store = store_of("create t a:number by range a", "part p of t default by range a", "part q of p default by range a",
                         *[f"part r{x} of q range {k} to {k + 1}" for k, x in enumerate("abcdef")])
        self.refuse(store, lambda: store.create_part("s", "q", Range((0,), (9,)), Cut("range", "a")), TooMany, limit=6)

    def test_the_first_part_that_overlaps(self):
        store = store_of("create t a:number by range a", "part pb of t range 0 to 5", "part pa of t range 5 to 9")
        self.refuse(store, lambda: store.create_part("q", "t", Range((4,), (6,))), Overlap, part="pa")
        self.refuse(store, lambda: store.create_part("q", "t", Range((-1,), (1,))), Overlap, part="pb")
        # What the bounds above hold does not matter.
        store = store_of("create t a:number b:number by range a", "part p of t range 0 to 5 by range a",
                         "part q of p range 10 to 20")
        self.refuse(store, lambda: store.create_part("r", "p", Range((19,), (30,))), Overlap, part="q")
        store.create_part("r", "p", Range((20,), (30,)))

    def test_bounds_without_a_key(self):
        store = store_of("create t a:number! b:number! by range a b", "part p of t range - - to + +")
        self.assertEqual(store.create_part("q", "t", Range((5, "+"), (6, "-"))), 0)
        self.assertIsNone(store.possible_row("q"))
        store = store_of("create t a:number! by values a", "part p of t values null 1")
        store.create_part("q", "t", Values(None, 2))
        self.assertEqual(store.possible_row("q"), (2,))

    def test_rows_that_are_looked_at(self):
        base = ["create t a:number b:number w:word by range a", "part d of t default by range b",
                "part da of d range - to 0", "part db of d range 0 to 10 by values w", "part dx of db values 'x",
                "part dy of db default", "insert t 100 -5 'x / 100 5 'x / 100 5 'y / 200 6 null / null 7 'x"]
        for checks, low, high, count in [
            ([], 0, 50, 5),
            (["check d one a > 40"], 0, 40, 0),
            (["check d one a > 40"], 0, 41, 0),
            (["check d one a > 40"], 0, 42, 5),
            (["check da one a > 40"], 0, 40, 4),
            (["check db one not a < 50"], 0, 40, 1),
            (["check dx one a is null or a >= 100", "check dy two not w > 'xx or a > 50"], 0, 50, 3),
            (["check t one b < 0 or w < 'y or a > 49 or a is null"], 0, 50, 5),
            (["check t one b < 0 or w < 'y or a > 49 or a is null", "check t two not a = 7 or b > 0"], 7, 8, 4),
        ]:
            store = store_of(*base, *checks)
            self.assertEqual(store.create_part("p", "t", Range((low,), (high,))), count, checks)
        store = store_of(*base)
        self.assertEqual(store.create_part("p", "t", Range((5, ), (6,)), Cut("range", "b")), 5)
        self.assertEqual(store.create_part("q", "d", Range((10,), ("+",))), 0)

    def test_the_default_part_of_other_tables(self):
        store = store_of("create t a:number by range a", "part d of t default by range a", "part e of d default",
                         "insert t 5 / 7", "part f of d range 0 to 5")
        self.assertEqual(store.create_part("g", "d", Range((10,), (20,))), 2)
        self.refuse(store, lambda: store.create_part("p", "t", Range((0,), (6,))), InDefault, row=(5,))
        self.refuse(store, lambda: store.create_part("p", "t", Range((7,), (8,))), InDefault, row=(7,))
        # All rows of `e` are looked at, none of `f` and `g`.
        self.assertEqual(store.create_part("p", "t", Range((8,), (12,))), 2)

    def test_required_columns_spare_looking(self):
        for mark, count in [("", 2), ("!", 0)]:
            store = store_of(f"create t a:number{mark} by values a", "part d of t default", "insert t 1 / 2")
            self.assertEqual(store.create_part("n", "t", Values(None)), count)

    def test_least_rows(self):
        store = store_of("create t a:number w:word by range a", "part d of t default", "insert t 9 'x / 9 null / 9 'a / 3 'z")
        self.refuse(store, lambda: store.create_part("p", "t", Range((5,), (10,))), InDefault, row=(9, None))
        self.refuse(store, lambda: store.create_part("p", "t", Range((0,), (10,))), InDefault, row=(3, "z"))


class DropTest(StoreTest):
    def test_drop(self):
        store = store_of(*EXAMPLE)
        self.assertIsNone(store.drop("hi"))
        self.assertEqual(store.names, ("lo", "t"))
        self.assertEqual(list(store.rows_of("t")), [(1, "x"), (3, None)])
        store.drop("t")
        self.assertEqual(store.names, ())
        self.refuse(store, lambda: store.drop("t"), UnknownTable, value="t")


class CheckTest(StoreTest):
    def test_each_error_and_the_next_one(self):
        store = store_of("create t a:number w:word", "check t one a > 0", "insert t 5 'x / 3 null")
        for arguments, error, fields in [
            (("t", 5, "a >"), InvalidName, {"value": 5}),
            (("t", "is", "a >"), InvalidName, {"value": "is"}),
            (("t", "one", "a >"), CheckExists, {"label": "one"}),
            (("t", "two", "a >"), InvalidText, {"index": 2}),
            (("t", "two", "a > 4"), CheckFails, {"label": "two", "row": (3, None)}),
        ]:
            self.refuse(store, lambda: store.add_check(*arguments), error, **fields)
        self.assertEqual(store.add_check("t", "two", "a > 2"), 2)
        self.refuse(store, lambda: store.add_check("t", "one", "b"), CheckExists, label="one")
        self.refuse(store, lambda: store.add_check("t", "three", "b"), InvalidText, index=0)
        self.refuse(store, lambda: store.add_check("t", "three", "a > 4"), TooMany, limit=2)
        self.assertEqual(list(store.checks_of("t").items()), [("one", "a > 0"), ("two", "a > 2")])

    def test_texts(self):
        store = store_of("create t a:number w:word")
        for text, index in [
            ("", 0), (None, 0), (5, 0), (["a = 1"], 0), ("a", 1), ("a = $1", 2), ("a = 1 and w < $1 and", 6), ("a = $2", 2),
            ("a = $1 or a = zz", 2), ("a = 1 or b = $1", 4), ("a in ( 1", 4), ("w rest 2 0", 1), ("a  = 1", 1),
        ]:
            self.refuse(store, lambda: store.add_check("t", "one", text), InvalidText, index=index)

    def test_labels(self):
        store = store_of("create t a:number", "check t one a > 0")
        for value in ANY_VALUES + RESERVED + ["lowercase"]:
            if value not in ("a", "name", "number", "word"):
                self.refuse(store, lambda: store.add_check("t", value, "b"), InvalidName, value=value)
            self.refuse(store, lambda: store.drop_check("t", value), UnknownCheck, label=value)
        self.assertIsNone(store.drop_check("t", "one"))
        self.refuse(store, lambda: store.drop_check("t", "one"), UnknownCheck, label="one")

    def test_labels_belong_to_a_table(self):
        store = store_of("create t a:number by range a", "part p of t default", "check t one a > 0")
        store.add_check(name="p", label="one", text="a > 1")
        self.assertEqual((store.checks_of("t"), store.checks_of("p")), ({"one": "a > 0"}, {"one": "a > 1"}))
        store.drop_check(name="t", label="one")
        self.assertEqual((store.checks_of("t"), store.checks_of("p")), ({}, {"one": "a > 1"}))

    def test_labels_ascend(self):
        store = store_of("create t a:number", "check t z a > 0", "check t b a > 1")
        self.assertEqual(list(store.checks_of("t")), ["b", "z"])
        checks = store.checks_of("t")
        checks.clear()
        self.assertEqual(len(store.checks_of("t")), 2)

    def test_unknown_is_not_false(self):
        store = store_of("create t a:number b:number", "insert t null 5 / 7 null")
        self.assertEqual(store.add_check("t", "one", "a = 7"), 2)
        # A row that makes this one False has an a that is neither None nor 7.
        self.assertEqual(store.add_check("t", "two", "a > 5 or b < 6"), 0)

    def test_rows_that_are_looked_at(self):
        base = ["create t a:number! w:word by range a", "part lo of t range 0 to 10", "part hi of t range 10 to 20 by values w",
                "part hx of hi values 'x", "part hn of hi values null", "part hd of hi default",
                "insert t 1 'x / 2 'y / 12 'x / 13 null / 14 'z / 15 'y / 16 'y"]
        for more, name, text, count in [
            ([], "t", "a >= 0", 0),
            ([], "t", "a < 20", 0),
            ([], "t", "a < 19", 5),
            ([], "t", "a > 0", 2),
            ([], "t", "a < 19 or w <> 'x", 1),
            ([], "t", "a < 19 or w <> 'y", 3),
            ([], "hi", "w <> 'q", 3),
            ([], "hi", "w is null or w is not null", 0),
            ([], "hx", "w = 'x", 0),
            ([], "hn", "w = 'q", 0),
            (["check t one a <> 19"], "t", "a < 19", 0),
            # The check is unknown where w is None.
            (["check hi one a <> 19 or w = 'x"], "t", "a < 19", 2),
            (["check hd one a <> 19", "check hn two not a = 19"], "hi", "a < 19", 1),
            (["check lo one a > 0"], "t", "a >= 1", 0),
            (["check lo one a > 0"], "t", "a > 1 or w = 'x", 2),
        ]:
            store = store_of(*base, *more)
            self.assertEqual(store.add_check(name, "new", text), count, (more, text))
            self.assertEqual(store.looked, ())

    def test_the_least_row_fails(self):
        store = store_of("create t a:number w:word by values w", "part p of t values 'b", "part q of t default",
                         "insert t 5 'b / 5 'a / null 'b / 4 'b / 9 null")
        self.refuse(store, lambda: store.add_check("t", "c", "a > 5"), CheckFails, label="c", row=(4, "b"))
        self.refuse(store, lambda: store.add_check("t", "c", "a is null"), CheckFails, label="c", row=(4, "b"))
        self.refuse(store, lambda: store.add_check("t", "c", "w > 'a"), CheckFails, label="c", row=(5, "a"))
        self.refuse(store, lambda: store.add_check("q", "c", "a <> 9"), CheckFails, label="c", row=(9, None))
        self.refuse(store, lambda: store.add_check("t", "c", "a is not null"), CheckFails, label="c", row=(None, "b"))


class KeyTest(StoreTest):
    def test_each_error_and_the_next_one(self):
        store = store_of("create t a:number b:number w:word by range a", "part p of t default by values w", "part q of p default",
                         "insert t 5 6 'x / 5 7 'x / 1 1 'y")
        for arguments, error, fields in [
            (("p", "x"), NotTop, {"table": "p"}),
            (("t", "a", "x", "y"), UnknownColumn, {"value": "x"}),
            (("t", "a", "a", 5), UnknownColumn, {"value": 5}),
            (("t",), InvalidKey, {}),
            (("t", "b", "b"), InvalidKey, {}),
            (("t", "b"), KeyTooSmall, {"column": "w"}),
            (("t", "a", "b"), KeyTooSmall, {"column": "w"}),
            (("t", "w", "b"), KeyTooSmall, {"column": "a"}),
            (("t", "w", "a"), DuplicateKey, {"row": (5, 6, "x")}),
        ]:
            self.refuse(store, lambda: store.add_key(*arguments), error, **fields)
        self.assertIsNone(store.add_key("t", "w", "b", "a"))
        self.refuse(store, lambda: store.add_key("t", "a", "b", "w"), KeyExists)
        self.refuse(store, lambda: store.add_key("t", "a", "b"), KeyTooSmall, column="w")
        store.delete_rows("t", "b = 7")
        store.add_key("t", "a", "w")
        self.refuse(store, lambda: store.add_key("t", "w", "a"), KeyExists)
        self.assertEqual(store.keys_of("t"), (("w", "b", "a"), ("a", "w")))
        self.assertEqual(store.keys_of("q"), ())

    def test_too_many(self):
        store = store_of("create t a:number b:number w:word", "key t a", "key t b")
        self.refuse(store, lambda: store.add_key("t", "b"), KeyExists)
        self.refuse(store, lambda: store.add_key("t", "w"), TooMany, limit=2)
        store = store_of("create t a:number b:number w:word", "key t b", "insert t 1 1 'x / 1 2 'x", "key t b w")
        self.refuse(store, lambda: store.add_key("t", "a"), TooMany, limit=2)

    def test_tables_ascend(self):
        store = store_of("create t a:number b:number c:number by range a", "part p of t default by range b c",
                         "part k of p default by range c")
        self.refuse(store, lambda: store.add_key("t", "b"), KeyTooSmall, column="c")
        self.refuse(store, lambda: store.add_key("t", "c"), KeyTooSmall, column="b")
        self.refuse(store, lambda: store.add_key("t", "c", "b"), KeyTooSmall, column="a")

    def test_values_of_columns(self):
        store = store_of("create t a:number")
        for value in ANY_VALUES + ["b", ("a",), ["a"]]:
            if value != "a":
                self.refuse(store, lambda: store.add_key("t", value), UnknownColumn, value=value)
                self.refuse(store, lambda: store.add_key("t", "a", "a", value), UnknownColumn, value=value)
                self.refuse(store, lambda: store.drop_key("t", value), UnknownKey)

    def test_none_is_no_key(self):
        store = store_of("create t a:number b:number", "insert t null 5 / null 5 / 5 null / 5 null / null null / null null")
        store.add_key("t", "a", "b")
        self.refuse(store, lambda: store.add_key("t", "a"), DuplicateKey, row=(5, None))
        self.refuse(store, lambda: store.add_key("t", "b"), DuplicateKey, row=(None, 5))

    def test_drop_key(self):
        store = store_of("create t a:number b:number w:word by range a", "part p of t default", "key t a b", "key t w a")
        for columns in ((), ("a",), ("a", "w", "b"), ("a", "a"), ("a", "b", "b"), ("b", "w")):
            self.refuse(store, lambda: store.drop_key("t", *columns), UnknownKey)
        self.refuse(store, lambda: store.drop_key("p", "a", "b"), UnknownKey)
        self.refuse(store, lambda: store.drop_key("p"), UnknownKey)
        self.assertIsNone(store.drop_key("t", "b", "a"))
        self.assertEqual(store.keys_of("t"), (("w", "a"),))
        store.add_key("t", "b", "a")
        self.assertEqual(store.keys_of("t"), (("w", "a"), ("b", "a")))


class PossibleTest(StoreTest):
    def test_possible_row(self):
        store = store_of("create t a:number b:number w:word by range a", "create u a:number! w:word!", "create n a:number by rest a")
        self.assertIsNone(store.possible_row("t"))
        self.assertIsNone(store.possible_row("n"))
        self.assertEqual(store.possible_row("u"), (-TOP, "a"))
        store.create_part("p", "t", Range((5,), ("+",)))
        self.assertEqual(store.possible_row("t"), (5, None, None))
        store.add_check("p", "one", "a rest 4 3 and not w < 'c and b is not null")
        self.assertEqual(store.possible_row("t"), (7, -TOP, None))
        store.create_part("q", "t", Range((0,), (5,)), Cut("range", "w", "b"))
        self.assertEqual(store.possible_row("t"), (7, -TOP, None))
        store.create_part("r", "q", Range((LAST, 3), ("+", "+")))
        self.assertEqual(store.possible_row("t"), (0, 3, LAST))
        self.assertEqual(store.possible_row("q"), (0, 3, LAST))
        store.add_check("t", "one", "not a < b")
        self.assertEqual(store.possible_row("t"), (3, 3, LAST))
        store.add_check("q", "two", "a < 3")
        self.assertIsNone(store.possible_row("r"))
        store.create_part("d", "t", Default())
        self.assertEqual(store.possible_row("t"), (None, None, None))

    def test_keys_do_not_matter(self):
        store = store_of("create t a:number!", "key t a", f"insert t {-TOP}")
        self.assertEqual(store.possible_row("t"), (-TOP,))

    def test_leaf_of(self):
        store = store_of(*EXAMPLE, "check hi c a < 90")
        for name, row, leaf in [
            ("t", (0, None), "lo"), ("t", (9, "x"), "lo"), ("t", (10, None), "hx"), ("t", (10, "x"), "hx"), ("t", (10, "y"), "hy"),
            ("hi", (99, "a"), "hy"), ("hy", (99, "a"), "hy"), ("lo", (5, None), "lo"),
        ]:
            self.assertEqual(store.leaf_of(name, row), leaf)
        for name, row in [
            ("t", (-1, None)), ("t", (100, "x")), ("hi", (5, "x")), ("hx", (5, "x")), ("hy", (10, "x")), ("hx", (10, "y")),
            ("lo", (10, "x")),
        ]:
            self.refuse(store, lambda: store.leaf_of(name, row), NoPart, row=row)

    def test_values_that_are_no_rows(self):
        store = store_of("create t a:number! w:word by range a", "part p of t default")
        for value in ANY_VALUES + [(None, "x"), (1,), (1, "x", 2), [1, "x"], (True, "x"), (TOP + 1, "x"), (1, "X"), ("x", 1)]:
            self.refuse(store, lambda: store.leaf_of("t", value), InvalidRow, value=value)
            self.refuse(store, lambda: store.leaf_of("p", value), InvalidRow, value=value)

    def test_three_cuts(self):
        store = store_of("create t a:number b:number w:word by rest a", "part ra of t rest 2 0 by range b w",
                         "part rb of t default by values w", "part xa of ra range 0 'b to 5 'b by values w",
                         "part xb of ra default", "part ya of rb values null 'q", "part yb of rb default by rest b",
                         "part za of yb rest 3 1", "part zb of yb default", "part va of xa values 'b", "part vb of xa default")
        for row, leaf in [
            ((2, 0, "b"), "va"), ((2, 0, "c"), "vb"), ((2, 5, "a"), "vb"), ((2, 5, "b"), "xb"), ((2, None, "b"), "xb"),
            ((2, 3, None), "xb"), ((2, -1, "b"), "xb"), ((None, 4, "q"), "ya"), ((None, 4, "r"), "za"), ((1, None, "r"), "zb"),
            ((1, 3, "r"), "zb"), ((1, 3, None), "ya"),
        ]:
            self.assertEqual(store.leaf_of("t", row), leaf, row)
        self.assertEqual([store.possible_row(name) for name in ("va", "vb", "xb", "ya", "yb", "za", "zb")], [
            (-TOP, 0, "b"), (-TOP, 0, "ba"), (-TOP, None, None), (None, None, None), (None, None, "a"),
            (None, min(n for n in range(-TOP, 3 - TOP) if n % 3 == 1), "a"),
            (None, None, "a"),
        ])


if __name__ == "__main__":
    unittest.main()
