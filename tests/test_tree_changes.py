"""Points 80 to 84: attach, detach, split, merge, rebound."""

import random
import unittest

from partwise.bounds import Default, Range, Rest, Values
from partwise.errors import (
    CheckFails, DuplicateKey, Gap, HasKeys, InDefault, InvalidBound, InvalidName, InvalidPieces, KeyTooSmall, NotCut, NotHeld,
    NotLeaf, NotPart, NotSiblings, NotTop, Outside, Overlap, OwnChecks, SchemaDiffers, TableExists, TooMany, UnknownTable,
)
from partwise.statements import run
from tests.histories import grown
from tests.samples import ANY_VALUES, RESERVED, Kept
from tests.stores import EXAMPLE, TOP, StoreTest, bound, store_of


class ExampleTest(unittest.TestCase):
    def test_example(self):
        store = store_of(*EXAMPLE)
        lines = [run(store, 'create u a:number! w:word'), run(store, "insert u 150 'x"), run(store, 'check u big a >= 100 and a < 200')]
        self.assertEqual([lines, run(store, 'attach u to t range 100 to 200'), store.leaves_of('t')],
                         [['ok', '1', '1'], '0', ('hx', 'hy', 'lo', 'u')])


def rows_by_leaf(store, name):
    return {leaf: list(store.rows_of(leaf)) for leaf in store.leaves_of(name)}


class NamesTest(StoreTest):
    def test_any_values(self):
        store = store_of(*EXAMPLE)
        for value in ANY_VALUES + ["x", "T"]:
            for call in (
                lambda: store.attach(value, 5, Rest(2, 0)), lambda: store.detach(value), lambda: store.split_part(value, 5),
                lambda: store.merge_parts(["lo", value], 5, Rest(2, 0)), lambda: store.rebound(value, Rest(2, 0)),
            ):
                self.refuse(store, call, UnknownTable, value=value)
            store.create("top", store.schema_of("t"))
            self.refuse(store, lambda: store.attach("top", value, Rest(2, 0)), UnknownTable, value=value)
            store.drop("top")


class AttachTest(StoreTest):
    def test_rows_parts_and_checks_come_along(self):
        store = store_of("create t a:number b:number by range a", "create u a:number b:number by range b", "part v of u default",
                         "check u one a > 0 or a is null", "insert u 5 6 / 7 8")
        self.assertEqual(store.attach(name="u", parent="t", bound=Range((1,), (9,))), 2)
        self.assertEqual((store.tops, store.parent_of("u"), store.bound_of("u")), (("t",), "t", Range((1,), (9,))))
        self.assertEqual((store.leaves_of("t"), store.checks_of("u")), (("v",), {"one": "a > 0 or a is null"}))
        self.assertEqual(list(store.rows_of("t")), [(5, 6), (7, 8)])
        self.assertEqual(store.looked, ())

    def test_rows_that_are_looked_at(self):
        top = ["create t a:number b:number w:word by range a", "part p of t range 0 to 100 by values w", "part d of p default",
               "check t one b < 50", "check p two not b = 7", "insert d 5 1 'y / 6 2 null / 7 3 'z"]
        new = ["create u a:number b:number w:word by rest b", "part ua of u rest 2 0", "part ub of u default",
               "insert u 10 2 'x / 12 4 'x / 11 5 'x / 13 null 'x / 14 3 'x"]
        fits = "w = 'x and a is not null and w is not null"
        for checks, text, count in [
            ([], "values 'x", 8),
            ([f"check u c {fits}"], "values 'x", 8),
            ([f"check u c {fits} and a >= 0 and a < 100 and b < 50 and b <> 7"], "values 'x", 3),
            ([f"check u c {fits} and a >= 0 and a < 100 and b < 50 and b <> 7", "check d c w <> 'x"], "values 'x", 0),
            ([f"check u c {fits} and a >= 0 and a < 100 and b < 51 and b <> 7", "check d c w <> 'x"], "values 'x", 2),
            ([f"check u c {fits} and a >= 0 and a < 100 and b < 50", "check d c w <> 'x"], "values 'x", 3),
            ([f"check u c {fits} and a >= 0 and a < 101 and b < 7", "check d c w <> 'x"], "values 'x", 5),
            # The check is unknown where w is None: such a row is possible, and the bound does not hold it.
            (["check u c w = 'x and a >= 0 and a < 100 and b < 50 and b <> 7"], "values 'x", 8),
        ]:
            store = store_of(*top, *new, *checks)
            self.assertEqual(store.attach("u", "p", bound(text)), count, checks)
            self.assertEqual(store.count_rows("t"), 8)

    def test_which_checks_above_spare(self):
        # In the count above, `b <> 7` leaves a doubt in the default part only: 7 is odd.
        store = store_of("create t a:number! b:number! by range a", "check t c not b = 7", "create u a:number! b:number! by rest b",
                         "part ua of u rest 2 0", "part ub of u default", "check u c a > 5", "insert u 6 2 / 7 4 / 6 5")
        self.assertEqual(store.attach("u", "t", Range((6,), ("+",))), 1)

    def test_a_default_part(self):
        store = store_of("create t a:number! by range a", "part p of t range 0 to 10", "create u a:number!", "insert u 20 / -5")
        self.assertEqual(store.attach("u", "t", Default()), 2)
        store = store_of("create t a:number! by range a", "part p of t range 0 to 10", "create u a:number!", "insert u 20 / -5",
                         "check u c a < 0 or a > 9")
        self.assertEqual(store.attach("u", "t", Default()), 0)
        self.assertEqual(store.leaf_of("t", (10,)), "u")
        store = store_of("create t a:number! by range a", "part p of t range 0 to 10", "create u a:number!", "insert u 20 / -5 / 9 / 3")
        self.refuse(store, lambda: store.attach("u", "t", Default()), NotHeld, row=(3,))

    def test_each_error_and_the_next_one(self):
        base = ["create t a:number b:number by range a", "part p of t range 0 to 10 by rest b", "part d of t default", "key t a b",
                "check t one b <> 3", "check t two b < 50", "check p one a <> 9", "insert t 20 5 / 30 6",
                "create u a:number b:number by values b", "part v of u default", "insert u 20 5 / 25 70 / 5 3 / 9 70 / 7 3"]
        other = base + ["create s b:number a:number", "key s a", "create k a:number b:number", "key k a"]
        store = store_of(*other)
        text = Values(1)
        for arguments, error, fields in [
            (("p", "x", text), NotTop, {"table": "p"}),
            (("s", "x", text), UnknownTable, {"value": "x"}),
            (("s", "d", text), NotCut, {"table": "d"}),
            (("s", "t", text), HasKeys, {"table": "s"}),
            (("k", "t", text), HasKeys, {"table": "k"}),
            (("u", "u", Rest(2, 0)), SchemaDiffers, {}),
            (("u", "t", text), InvalidBound, {}),
            (("u", "t", Range((5,), (30,))), Overlap, {"part": "p"}),
            (("u", "t", Default()), Overlap, {"part": "d"}),
            (("u", "t", Range((10,), (30,))), NotHeld, {"row": (5, 3)}),
        ]:
            self.refuse(store, lambda: store.attach(*arguments), error, **fields)
        store.delete_rows("u", "a = 5 or a = 7")
        self.refuse(store, lambda: store.attach("u", "t", Range((10,), (30,))), NotHeld, row=(9, 70))
        store.change_rows("u", "a = 9", a=29)
        self.refuse(store, lambda: store.attach("u", "t", Range((10,), (30,))), CheckFails, label="two", row=(25, 70))
        store.add_rows("u", [(26, 3)])
        self.refuse(store, lambda: store.attach("u", "t", Range((10,), (30,))), CheckFails, label="one", row=(26, 3))
        store.delete_rows("u", "b = 70 or b = 3")
        self.refuse(store, lambda: store.attach("u", "t", Range((10,), (30,))), InDefault, row=(20, 5))
        store.change_rows("d", "a = 20", a=31)
        store.add_rows("u", [(20, 5)])
        self.refuse(store, lambda: store.attach("u", "t", Range((10,), (30,))), DuplicateKey, row=(20, 5))
        store.delete_rows("u")
        store.add_rows("u", [(20, 5), (21, None), (21, None)])
        self.assertEqual(store.attach("u", "t", Range((10,), (30,))), 5)

    def test_a_part_below_itself(self):
        store = store_of("create t a:number by range a", "part p of t default by range a")
        for parent in ("t", "p"):
            self.refuse(store, lambda: store.attach("t", parent, Values(1)), SchemaDiffers)
        store = store_of("create t a:number by range a", "create u a:number! by range a", "create v b:number", "create w a:word")
        for name in ("u", "v", "w"):
            self.refuse(store, lambda: store.attach(name, "t", Values(1)), SchemaDiffers)

    def test_too_many(self):
        six = [f"part p{x} of t range {k} to {k + 1}" for k, x in enumerate("abcdef")]
        store = store_of("create t a:number by range a", *six, "create u a:number by range a", "part v of u default by range a",
                         "part w of v default by range a")
        self.refuse(store, lambda: store.attach("u", "t", Values(1)), InvalidBound)
        self.refuse(store, lambda: store.attach("u", "t", Range((0,), (9,))), TooMany, limit=6)
        store.drop("pa")
        self.refuse(store, lambda: store.attach("u", "t", Range((0,), (9,))), TooMany, limit=3)
        store.drop("w")
        self.refuse(store, lambda: store.attach("u", "t", Range((0,), (9,))), Overlap, part="pb")
        self.assertEqual(store.attach("u", "t", Range((0,), (1,))), 0)

    def test_keys_that_are_too_small(self):
        store = store_of("create t a:number b:number c:number d:number by range a", "key t a b c", "key t a b d",
                         "create u a:number b:number c:number d:number by range b", "part w of u default by range c d",
                         "part e of u range 0 to 5 by values d", "part p of t range 0 to 9")
        self.refuse(store, lambda: store.attach("u", "t", Range((8,), (9,))), Overlap, part="p")
        # Of the first key, `e` lacks d; `w` stands behind it.
        self.refuse(store, lambda: store.attach("u", "t", Range((9,), (10,))), KeyTooSmall, column="d")
        store.drop("e")
        self.refuse(store, lambda: store.attach("u", "t", Range((9,), (10,))), KeyTooSmall, column="d")
        store.drop_key("t", "a", "b", "c")
        self.refuse(store, lambda: store.attach("u", "t", Range((9,), (10,))), KeyTooSmall, column="c")
        store.drop("w")
        self.assertEqual(store.attach("u", "t", Range((9,), (10,))), 0)

    def test_equal_keys_among_the_rows_of_the_table(self):
        store = store_of("create t a:number b:number by range a", "key t a", "create u a:number b:number",
                         "insert u 7 1 / 7 2 / 5 3 / 6 4 / null 5 / null 5", "delete u where a is null", "part p of t range 0 to 6",
                         "insert p 5 5")
        self.refuse(store, lambda: store.attach("u", "t", Range((6,), (10,))), NotHeld, row=(5, 3))
        store.delete_rows("u", "a = 5")
        self.refuse(store, lambda: store.attach("u", "t", Range((6,), (10,))), DuplicateKey, row=(7, 1))

    def test_the_first_check_above(self):
        store = store_of("create t a:number b:number by range a", "part p of t default by range a", "check t z b <> 1",
                         "check t y b <> 2", "check p a b <> 3", "create u a:number b:number", "insert u 1 3 / 2 2 / 3 1 / 1 1")
        for label, row, b in [("y", (2, 2), 2), ("z", (1, 1), 1), ("a", (1, 3), 3)]:
            self.refuse(store, lambda: store.attach("u", "p", Range((0,), (9,))), CheckFails, label=label, row=row)
            store.delete_rows("u", f"b = {b}")
        self.assertEqual(store.attach("u", "p", Range((0,), (9,))), 0)


class DetachTest(StoreTest):
    def test_detach(self):
        store = store_of("create t a:number w:word by range a", "part p of t range 0 to 9 by values w", "part q of p default",
                         "key t a w", "check t one a < 8", "check p two a > 1", "insert t 5 'x")
        self.assertIsNone(store.detach("p"))
        self.assertEqual((store.tops, store.parent_of("p"), store.bound_of("p")), (("p", "t"), None, None))
        self.assertEqual((store.checks_of("p"), store.keys_of("p"), store.keys_of("t")), ({"two": "a > 1"}, (), (("a", "w"),)))
        self.assertEqual((list(store.rows_of("p")), list(store.rows_of("t"))), ([(5, "x")], []))
        store.add_rows("p", [(5, "x"), (50, "y")])
        self.assertEqual(store.possible_row("p"), (None, None))
        self.refuse(store, lambda: store.detach("t"), NotPart, table="t")
        self.refuse(store, lambda: store.detach("p"), NotPart, table="p")
        store.detach(name="q")
        self.assertEqual((store.leaves_of("p"), store.count_rows("q")), ((), 3))


class SplitTest(StoreTest):
    base = ["create t a:number! b:number by range a", "part p of t range 0 to 10", "check p c b <> 5", "insert t 1 1 / 4 null / 5 2 / 9 7"]

    def test_split(self):
        store = store_of(*self.base)
        pieces = [("q", Range((5,), (10,))), ("p", Range((0,), (5,)))]
        kept = list(pieces)
        self.assertEqual(store.split_part(name="p", pieces=pieces), 2)
        self.assertEqual(pieces, kept)
        self.assertEqual(rows_by_leaf(store, "t"), {"p": [(1, 1), (4, None)], "q": [(5, 2), (9, 7)]})
        self.assertEqual((store.checks_of("p"), store.checks_of("q")), ({"c": "b <> 5"}, {"c": "b <> 5"}))
        self.assertEqual(store.split_part("q", (("q", Range((5,), (10,))),)), 0)
        self.assertEqual(store.split_part("q", [("r", Range((5,), (10,)))]), 2)
        store.drop_check("r", "c")
        self.assertEqual((store.checks_of("p"), store.checks_of("r")), ({"c": "b <> 5"}, {}))
        store.undo()
        store.undo()
        store.undo()
        self.assertEqual(store.names, ("p", "q", "t"))

    def test_each_error_and_the_next_one(self):
        store = store_of(*self.base, "part q of t range 10 to 20 by range a", "part r of q default")
        good = [("x", Range((0,), (10,)))]
        for arguments, error, fields in [
            (("t", 5), NotPart, {"table": "t"}),
            (("q", 5), NotLeaf, {"table": "q"}),
            (("p", [5]), InvalidPieces, {}),
            (("p", [("X", Rest(2, 0)), ("t", 5)]), InvalidPieces, {}),
            (("p", [("X", Rest(2, 0)), ("t", Default())]), InvalidName, {"value": "X"}),
            (("p", [("t", Rest(2, 0)), ("X", Default())]), TableExists, {"table": "t"}),
            (("p", [("x", Rest(2, 0)), ("x", Default())]), TableExists, {"table": "x"}),
            (("p", [("p", Rest(2, 0)), ("p", Default())]), TableExists, {"table": "p"}),
            (("p", [("x", Rest(2, 0)), (["p"], Default())]), InvalidName, {"value": ["p"]}),
            (("p", good + [("y", Rest(2, 0))]), InvalidBound, {}),
            (("p", good + [("y", Default())]), InvalidBound, {}),
            (("p", good + [(f"p{x}", Range((0,), (9,))) for x in "abcdef"]), TooMany, {"limit": 6}),
            (("p", [("x", Range((0,), (5,))), ("y", Range((4,), (12,)))]), Overlap, {"part": "y"}),
            (("p", [("x", Range((0,), (5,))), ("y", Range((6,), (12,)))]), Outside, {"key": (10,)}),
            (("p", [("x", Range((0,), (5,))), ("y", Range((6,), (10,)))]), Gap, {"key": (5,)}),
            (("p", [("x", Range((-5,), (5,))), ("y", Range((5,), (9,)))]), Outside, {"key": (-5,)}),
            (("p", [("x", Range((1,), (5,)))]), Gap, {"key": (0,)}),
        ]:
            self.refuse(store, lambda: store.split_part(*arguments), error, **fields)

    def test_any_values(self):
        store = store_of(*self.base)
        for value in ANY_VALUES + [[("q",)], [("q", Default(), 5)], [["q", Default()]], [("q", "default")], {"q": Default()},
                                   ("q", Default()), [("q", Range((0,), (10,))), None]]:
            self.refuse(store, lambda: store.split_part("p", value), InvalidPieces)
        for value in ANY_VALUES + RESERVED + ["lowercase"]:
            if value not in ("a", "name", "number", "word"):
                self.refuse(store, lambda: store.split_part("p", [(value, Range((0,), (10,)))]), InvalidName, value=value)

    def test_too_many_tables(self):
        tops = [f"create {one}{other} a:number" for one in "bcdefgh" for other in "klmr"][:28]
        store = store_of("create t a:number by range a", "part p of t range 0 to 10", *tops,
                         *[f"create x{letter} a:number" for letter in "abcdefghi"])
        self.assertEqual(len(store.names), 39)
        two = [("x", Range((0,), (5,))), ("y", Range((6,), (10,)))]
        self.refuse(store, lambda: store.split_part("p", two), Gap, key=(5,))
        self.refuse(store, lambda: store.split_part("p", [("z", Range((5,), (6,)))] + two), TooMany, limit=40)
        self.refuse(store, lambda: store.split_part("p", [("z", Rest(2, 0))] + two), InvalidBound)
        many = [(f"z{x}", Range((k,), (k + 2,))) for k, x in enumerate("abcdefg")]
        self.refuse(store, lambda: store.split_part("p", many), TooMany, limit=40)
        store.drop("xa")
        self.assertEqual(store.split_part("p", [("z", Range((5,), (6,)))] + two), 0)

    def test_six_parts(self):
        store = store_of(*self.base, "part q of t range 10 to 20", "part r of t range 20 to 30", "part d of t default")
        three = [("x", Range((0,), (2,))), ("y", Range((2,), (5,))), ("z", Range((5,), (10,)))]
        self.assertEqual(store.split_part("p", three), 4)
        self.assertEqual(len(store.parts_of("t")), 6)
        two = [("v", Range((5,), (7,))), ("w", Range((7,), (10,)))]
        self.refuse(store, lambda: store.split_part("z", two), TooMany, limit=6)
        self.assertEqual(store.split_part("z", [("w", Range((5,), (10,)))]), 2)

    def test_default_parts(self):
        store = store_of("create t a:number by values a", "part p of t values 1 2", "part d of t default", "insert t null / 5 / 7 / 1")
        self.refuse(store, lambda: store.split_part("d", [("x", Values(None, 5)), ("y", Default()), ("z", Default())]), Overlap, part="z")
        self.refuse(store, lambda: store.split_part("d", [("x", Values(None, 5)), ("y", Values(5)), ("z", Default())]), Overlap, part="y")
        self.refuse(store, lambda: store.split_part("d", [("x", Values(None, 2)), ("z", Default())]), Outside, key=(2,))
        self.refuse(store, lambda: store.split_part("d", [("x", Values(None, 5))]), Gap, key=(-TOP,))
        self.refuse(store, lambda: store.split_part("d", [("x", Values(5))]), Gap, key=(None,))
        self.assertEqual(store.split_part("d", [("x", Values(None, 5)), ("d", Default())]), 2)
        self.assertEqual(rows_by_leaf(store, "t"), {"d": [(7,)], "p": [(1,)], "x": [(None,), (5,)]})
        store = store_of("create t a:number! by rest a", "part p of t rest 4 1", "part d of t default", "insert t 2 / 3 / 4")
        self.refuse(store, lambda: store.split_part("d", [("x", Rest(2, 0)), ("y", Rest(6, 3))]), Outside, key=(-TOP + 1,))
        self.refuse(store, lambda: store.split_part("d", [("x", Rest(2, 0))]), Gap, key=(-TOP + 3,))
        self.assertEqual(store.split_part("d", [("x", Rest(2, 0)), ("y", Rest(4, 3))]), 3)
        # All keys are held, and there is no default part any more.
        store.create_part("e", "t", Default())
        self.assertIsNone(store.possible_row("e"))

    def test_split_and_merge_there_and_back(self):
        store = store_of("create t a:number w:word by range a w", "part p of t range 0 'a to 10 'm", "part d of t default",
                         "insert t 0 'b / 5 'x / 10 'a / null 'x / 10 'z")
        before = store.copied()
        self.assertEqual(store.split_part("p", [("q", bound("range 0 'a to 5 -")), ("r", bound("range 5 - to 10 'm"))]), 3)
        self.assertEqual(rows_by_leaf(store, "t"), {"q": [(0, "b")], "r": [(5, "x"), (10, "a")], "d": [(None, "x"), (10, "z")]})
        self.assertEqual(store.merge_parts(["r", "q"], "p", bound("range 0 'a to 10 'm")), 3)
        self.assertTrue(store == before)
        self.assertEqual(store.split_part("d", [("e", bound("range 10 'm to + +")), ("d", Default())]), 1)
        self.assertEqual(store.merge_parts(["d", "e"], "d", Default()), 1)
        self.assertTrue(store == before)


class MergeTest(StoreTest):
    base = ["create t a:number! b:number by range a", "part p of t range 0 to 10", "part q of t range 10 to 20", "part r of t range 30 to 40",
            "part s of t range 20 to 30 by range b", "part sa of s range 0 to 5", "part d of t default", "insert t 1 1 / 12 2 / 11 3 / 35 4 / 50 5"]

    def test_merge(self):
        store = store_of(*self.base)
        names = ["q", "p"]
        kept = Kept(names)
        self.assertEqual(store.merge_parts(names=names, name="q", bound=Range((0,), (20,))), 1)
        self.assertTrue(kept.is_kept())
        self.assertEqual(rows_by_leaf(store, "t"), {"q": [(1, 1), (11, 3), (12, 2)], "r": [(35, 4)], "d": [(50, 5)], "sa": []})
        self.assertEqual(store.merge_parts(("q",), "new", Range((0,), (20,))), 3)
        self.assertEqual(store.merge_parts(["d", "new"], "d", Default()), 3)
        self.assertEqual(store.leaf_of("t", (15, None)), "d")
        self.assertEqual((store.checks_of("d"), store.cut_of("d"), store.parent_of("d")), ({}, None, "t"))

    def test_each_error_and_the_next_one(self):
        store = store_of(*self.base, "check q c b <> 9", "check r c b <> 9")
        wrong = Rest(2, 0)
        for arguments, error, fields in [
            ((["p", "x", "t"], 5, wrong), UnknownTable, {"value": "x"}),
            ((["p", "t", "x"], 5, wrong), NotPart, {"table": "t"}),
            ((["s", "t", "x"], 5, wrong), NotLeaf, {"table": "s"}),
            (([], 5, wrong), NotSiblings, {}),
            ((["q", "sa"], 5, wrong), NotSiblings, {}),
            ((["q", "p", "q"], 5, wrong), NotSiblings, {}),
            ((["p", "r", "q"], 5, wrong), OwnChecks, {"table": "r"}),
            ((["p"], 5, wrong), InvalidName, {"value": 5}),
            ((["p"], "q", wrong), TableExists, {"table": "q"}),
            ((["p"], "t", wrong), TableExists, {"table": "t"}),
            ((["p"], "p", wrong), InvalidBound, {}),
            ((["p"], "p", Default()), InvalidBound, {}),
            ((["p", "d"], "p", Range((0,), (10,))), InvalidBound, {}),
            ((["p"], "x", Range((-1,), (9,))), Outside, {"key": (-1,)}),
            ((["p"], "x", Range((0,), (9,))), Gap, {"key": (9,)}),
            ((["p"], "x", Range((0,), (99,))), Outside, {"key": (10,)}),
        ]:
            self.refuse(store, lambda: store.merge_parts(*arguments), error, **fields)
        for value in ANY_VALUES + RESERVED:
            if value not in ("a", "name", "number", "word"):
                self.refuse(store, lambda: store.merge_parts(["p"], value, wrong), InvalidName, value=value)

    def test_keys_between(self):
        store = store_of(*self.base)
        self.refuse(store, lambda: store.merge_parts(["p", "r"], "x", Range((0,), (40,))), Outside, key=(10,))
        store = store_of("create t a:number! by rest a", "part p of t rest 4 1", "part q of t rest 4 3", "part r of t rest 6 0", "insert t 5 / 7 / 6")
        self.refuse(store, lambda: store.merge_parts(["p", "q", "r"], "x", Rest(2, 1)), Gap, key=(min(n for n in range(-TOP, 6 - TOP) if n % 6 == 0),))
        self.refuse(store, lambda: store.merge_parts(["p"], "x", Rest(2, 1)), Outside, key=(3 - TOP,))
        self.assertEqual(store.merge_parts(["p", "q"], "x", Rest(2, 1)), 2)
        store = store_of("create t a:number b:number! by range a b", "part p of t range 1 - to 2 5", "part q of t range 2 5 to 3 -")
        self.assertEqual(store.merge_parts(["p", "q"], "q", Range((0, "+"), (2, "+"))), 0)
        # No number lies between (0, '+') and (1, '-').
        self.assertEqual(store.names, ("q", "t"))


class ReboundTest(StoreTest):
    base = ["create t a:number w:word by range a", "part p of t range 0 to 10 by values w", "part pa of p values 'x", "part pb of p default",
            "part q of t range 20 to 30", "part d of t default", "insert t 5 'x / 6 'x / 7 'y / 25 'z / 12 'x / null 'x / 40 'q"]

    def test_rows_that_are_looked_at(self):
        for checks, name, text, count in [
            ([], "p", "range 0 to 10", 0),
            ([], "p", "range 0 to 12", 3),
            ([], "p", "range 5 to 8", 3),
            ([], "p", "range 5 to 12", 6),
            (["check pa c a > 4"], "p", "range 5 to 10", 1),
            (["check pa c a > 4", "check pb c a > 5 and w is not null"], "p", "range 5 to 10", 0),
            (["check d c a is null or a < 10 or a > 11"], "p", "range -5 to 12", 3),
            (["check d c a is null or a > 11"], "p", "range -5 to 12", 0),
            ([], "q", "range 20 to 31", 3),
            ([], "q", "range 24 to 31", 4),
            ([], "q", "range 24 to 26", 1),
            # The bound holds no row without a, so that the check need not say so.
            (["check q c a = 25"], "q", "range 24 to 26", 0),
            ([], "d", "default", 0),
        ]:
            store = store_of(*self.base, *checks)
            self.assertEqual(store.rebound(name, bound(text)), count, (checks, name, text))
            self.assertEqual((store.bound_of(name), store.count_rows("t"), store.looked), (bound(text), 7, ()))

    def test_default_parts(self):
        store = store_of(*self.base)
        self.refuse(store, lambda: store.rebound("p", Default()), Overlap, part="d")
        self.refuse(store, lambda: store.rebound("d", bound("range 10 to 20")), NotHeld, row=(None, "x"))
        store.delete_rows("d", "a is null or a > 20")
        self.assertEqual(store.rebound("d", bound("range 10 to 20")), 1)
        self.assertEqual(store.rebound(name="p", bound=Default()), 0)
        self.assertEqual(store.leaf_of("t", (-5, "x")), "pa")
        self.assertEqual(store.rebound("p", Default()), 0)
        store.add_rows("t", [(35, None), (None, None)])
        self.refuse(store, lambda: store.rebound("q", bound("range 20 to 40")), InDefault, row=(35, None))
        self.refuse(store, lambda: store.rebound("q", bound("range 5 to 40")), Overlap, part="d")
        self.refuse(store, lambda: store.rebound("p", bound("range 0 to 10")), NotHeld, row=(None, None))

    def test_each_error_and_the_next_one(self):
        store = store_of(*self.base)
        for arguments, error, fields in [
            (("t", Rest(2, 0)), NotPart, {"table": "t"}),
            (("p", Rest(2, 0)), InvalidBound, {}),
            (("p", Range((6, 6), (21, 6))), InvalidBound, {}),
            (("p", Range((6,), (21,))), Overlap, {"part": "q"}),
            (("p", Range((6,), (20,))), NotHeld, {"row": (5, "x")}),
            (("p", Range((5,), (20,))), InDefault, {"row": (12, "x")}),
        ]:
            self.refuse(store, lambda: store.rebound(*arguments), error, **fields)

    def test_bounds_that_do_not_fit(self):
        # Without other parts, nothing but the cut is there to compare with.
        store = store_of("create t a:number by range a", "part p of t default", "create u a:number")
        for wrong in (Rest(2, 0), Values(5), Range((1, 2), (3, 4)), Range(("a",), ("b",))):
            self.refuse(store, lambda: store.rebound("p", wrong), InvalidBound)
            self.refuse(store, lambda: store.split_part("p", [("q", wrong)]), InvalidBound)
            self.refuse(store, lambda: store.merge_parts(["p"], "q", wrong), InvalidBound)
            store.drop("p")
            self.refuse(store, lambda: store.create_part("p", "t", wrong), InvalidBound)
            self.refuse(store, lambda: store.attach("u", "t", wrong), InvalidBound)
            store.undo()

    def test_the_first_part_that_overlaps(self):
        store = store_of("create t a:number by range a", "part b of t range 0 to 5", "part a of t range 5 to 9", "part c of t range 9 to 12")
        self.refuse(store, lambda: store.rebound("c", Range((2,), (12,))), Overlap, part="a")
        self.refuse(store, lambda: store.rebound("c", Range((2,), (3,))), Overlap, part="b")


class SearchTest(unittest.TestCase):
    """Compares with the model, that tries out all small rows."""

    def test_random_changes(self):
        chooser = random.Random(80)
        seen = {}
        for _ in range(16):
            pair, history = grown(self, chooser, "create_part", "add_rows")
            for _ in range(50):
                kinds = [history.attach, history.detach, history.split, history.merge, history.rebound, history.create, history.add_rows]
                chooser.choice(kinds)()
                pair.compare()
            for key, count in pair.seen.items():
                seen[key] = seen.get(key, 0) + count
        for method in ("attach", "detach", "split_part", "merge_parts", "rebound"):
            self.assertGreater(seen.get((method, "done"), 0), 5, seen)


if __name__ == "__main__":
    unittest.main()
