"""Points 100 and 101: statements."""

import re
import unittest

from partwise.bounds import Bound, Default, Range, Values
from partwise.columns import Column, Schema
from partwise.cuts import Cut
from partwise.errors import (
    CheckExists, CheckFails, Gap, InDefault, InvalidBound, InvalidChange, InvalidCut, InvalidKey, InvalidRow, InvalidSchema, InvalidStatement,
    InvalidText, KeyExists, NoPart, NothingToRedo, NothingToUndo, NotPart, Overlap, TableExists, UnknownCheck, UnknownColumn,
    UnknownKey, UnknownTable,
)
from partwise.statements import run
from partwise.store import CountingStore, GuardedStore, Store
from tests.samples import ANY_VALUES, RESERVED, raised
from tests.stores import EXAMPLE, TOP, StoreTest, store_of

# A second reading of the grammar, by patterns.
NAME = f"(?:(?!(?:{'|'.join(RESERVED)})(?![^ /:]))[a-z]{{1,8}})"
NUMBER = "(?:0|-?[1-9][0-9]*)"
VALUE = f"(?:{NUMBER}|'[a-z]{{1,8}}|null)"
ENTRY = f"(?:{NUMBER}|'[a-z]{{1,8}}|-|\\+)"
BOUND = f"(?:range {ENTRY}(?: {ENTRY})? to {ENTRY}(?: {ENTRY})?|values(?: {VALUE})+|rest {NUMBER} {NUMBER}|default)"
CUT = f"by (?:range|values|rest)(?: {NAME})+"
CONDITION = "[^ ]+(?: [^ ]+)*"
WHERE = f"(?: where {CONDITION})?"
NAMES = f"{NAME}(?: {NAME})*"
ROW = f"{VALUE}(?: {VALUE})*"
CHANGE = f"{NAME} (?:{VALUE}|add {NUMBER})"
PATTERNS = [
    f"create {NAME}(?: {NAME}:(?:number|word)!?)+(?: (?P<cut>{CUT}))?",
    f"part {NAME} of {NAME} {BOUND}(?: (?P<cut>{CUT}))?",
    f"(?:drop|detach) {NAME}",
    f"check {NAME} {NAME} {CONDITION}",
    f"uncheck {NAME} {NAME}",
    f"(?:key|unkey) {NAME} {NAMES}",
    f"insert {NAME} {ROW}(?: / {ROW})*",
    f"delete {NAME}{WHERE}",
    f"update {NAME} set (?P<changes>{CHANGE}(?: {CHANGE})*){WHERE}",
    f"ask {NAME}(?: columns {NAMES})?(?: order -?{NAME}(?: -?{NAME})*)?(?: limit (?!-){NUMBER})?{WHERE}",
    f"count {NAME}(?: by {NAMES})?{WHERE}",
    f"(?:least|greatest) {NAME} {NAME}{WHERE}",
    "looked|undo|redo",
    f"attach {NAME} to {NAME} {BOUND}",
    f"split {NAME} into {NAME} {BOUND}(?: / {NAME} {BOUND})*",
    f"merge {NAMES} into {NAME} {BOUND}",
    f"rebound {NAME} {BOUND}",
]


def is_statement(text):
    for pattern in PATTERNS:
        match = re.fullmatch(pattern, text, re.ASCII)
        if match:
            return are_details_right(text, match.groupdict())
    return False


def are_details_right(text, groups):
    """What the patterns do not say: sizes of numbers, bounds, cuts, changes of the same column."""
    kind = text.split(" ")[0]
    head = text if kind == "check" else text.split(" where ")[0]
    if kind == "check":
        return True
    if any(re.fullmatch(NUMBER, word) and abs(int(word)) > TOP for word in head.split(" ")):
        return False
    if kind in ("part", "attach", "split", "merge", "rebound"):
        if any(raised(lambda: Bound.read(bound)) is not None for bound in re.findall(f" ({BOUND})(?![^ ])", head)):
            return False
    if groups.get("cut") is not None:
        if raised(lambda: Cut(*groups["cut"].split(" ")[1:])) is not None:
            return False
    if groups.get("changes") is not None:
        columns = [change.split(" ")[0] for change in re.findall(CHANGE, groups["changes"])]
        return len(set(columns)) == len(columns) and not {"name", "self"} & set(columns)
    return True


class SideBySideTest(StoreTest):
    """Each statement does what its method does."""

    schema = Schema(Column("a", "number", is_required=True), Column("w", "word"))

    def steps(self):
        """Statements, what they return, and the calls that do the same."""
        return [
            ("create t a:number! w:word by range a", "ok", lambda s: s.create("t", self.schema, Cut("range", "a"))),
            ("create u a:number! w:word", "ok", lambda s: s.create("u", self.schema)),
            ("create v w:word! b:number by range b w", "ok", lambda s: s.create(
                "v", Schema(Column("w", "word", is_required=True), Column("b", "number")), Cut("range", "b", "w"))),
            ("part lo of t range 0 to 10", "0", lambda s: s.create_part("lo", "t", Range((0,), (10,)))),
            ("part de of t default by values w", "0", lambda s: s.create_part("de", "t", Default(), Cut("values", "w"))),
            ("part dx of de values null 'x", "0", lambda s: s.create_part("dx", "de", Values(None, "x"))),
            ("part dy of de default", "0", lambda s: s.create_part("dy", "de", Default())),
            ("part va of v range 5 'a to 7 - by rest b", "0", lambda s: s.create_part(
                "va", "v", Range((5, "a"), (7, "-")), Cut("rest", "b"))),
            ("part vb of va rest 4 1", "0", lambda s: s.create_part("vb", "va", Bound.read("rest 4 1"))),
            ("insert t 1 'x / 2 null / -15 'y / 20 'x / 3 'x", "5", lambda s: s.add_rows(
                "t", [(1, "x"), (2, None), (-15, "y"), (20, "x"), (3, "x")])),
            (f"insert dx {TOP} null", "1", lambda s: s.add_rows("dx", [(TOP, None)])),
            ("insert u 150 'x", "1", lambda s: s.add_rows("u", [(150, "x")])),
            ("check t one a < 5 or not a = 17", "3", lambda s: s.add_check("t", "one", "a < 5 or not a = 17")),
            ("check lo two a <> 5", "3", lambda s: s.add_check("lo", "two", "a <> 5")),
            ("uncheck lo two", "ok", lambda s: s.drop_check("lo", "two")),
            ("key t w a", "ok", lambda s: s.add_key("t", "w", "a")),
            ("key u a", "ok", lambda s: s.add_key("u", "a")),
            ("unkey u a", "ok", lambda s: s.drop_key("u", "a")),
            ("delete t where a = 3", "1", lambda s: s.delete_rows("t", "a = 3")),
            ("update t set w 'q a add 100 where a = 20", "1", lambda s: s.change_rows("t", "a = 20", w="q", a=("add", 100))),
            ("update lo set a add -1 where a = 2", "1", lambda s: s.change_rows("lo", "a = 2", a=("add", -1))),
            ("update u set w null", "1", lambda s: s.change_rows("u", w=None)),
            ("update u set a 170 w 'z where w is null", "1", lambda s: s.change_rows("u", "w is null", a=170, w="z")),
            ("part hi of t range 100 to 110", "3", lambda s: s.create_part("hi", "t", Range((100,), (110,)))),
            ("attach u to t range 150 to 180", "4", lambda s: s.attach("u", "t", Range((150,), (180,)))),
            ("rebound u range 151 to 180", "1", lambda s: s.rebound("u", Range((151,), (180,)))),
            ("split lo into la range 0 to 2 / lb range 2 to 10", "2", lambda s: s.split_part(
                "lo", [("la", Range((0,), (2,))), ("lb", Range((2,), (10,)))])),
            ("merge lb la into lo range 0 to 10", "2", lambda s: s.merge_parts(["lb", "la"], "lo", Range((0,), (10,)))),
            ("split hi into hi range 100 to 110", "0", lambda s: s.split_part("hi", [("hi", Range((100,), (110,)))])),
            ("detach u", "ok", lambda s: s.detach("u")),
            ("drop v", "ok", lambda s: s.drop("v")),
            ("undo", "ok", lambda s: s.undo()),
            ("undo", "ok", lambda s: s.undo()),
            ("redo", "ok", lambda s: s.redo()),
            ("delete u", "1", lambda s: s.delete_rows("u")),
        ]

    def test_steps(self):
        for one, other in [(Store(), Store()), (CountingStore(), CountingStore()), (GuardedStore(9), GuardedStore(9))]:
            for text, due, call in self.steps():
                found = run(one, text)
                self.assertEqual(found, due, text)
                self.assertIs(type(found), str)
                result = call(other)
                self.assertEqual("ok" if result is None else str(result), found, text)
                self.assertTrue(one == other, text)
                self.assertEqual((one.looked, one.steps), (other.looked, other.steps), text)
                self.assertEqual(getattr(one, "counts", None), getattr(other, "counts", None))

    def test_questions(self):
        store = store_of(*EXAMPLE, "insert t 30 'y")
        for text, due, looked in [
            ("looked", "", ()),
            ("ask t", "1 'x\n3 null\n12 null\n15 'y\n20 'x\n30 'y", ("lo", "hx", "hy")),
            ("looked", "lo hx hy", ("lo", "hx", "hy")),
            ("ask t columns w", "'x\nnull\nnull\n'y\n'x\n'y", ("lo", "hx", "hy")),
            ("ask t columns w a w limit 2", "'x 1 'x\nnull 3 null", ("lo",)),
            ("ask t order -a limit 2", "30 'y\n20 'x", ("hx", "hy")),
            ("ask t order w -a", "12 null\n3 null\n20 'x\n1 'x\n30 'y\n15 'y", ("hx", "hy", "lo")),
            ("ask t columns a order -w limit 3 where a > 1 and a < 30", "15\n20\n3", ("hx", "hy", "lo")),
            ("ask t limit 0", "", ()),
            ("ask t where a > 90", "", ("hx", "hy")),
            ("ask t where not a < 30", "30 'y", ("hx", "hy")),
            ("count t", "6", ("hx", "hy", "lo")),
            ("count t by w", "null 2\n'x 2\n'y 2", ("hx", "hy", "lo")),
            ("count hi by w a where a > 12", "'x 20 1\n'y 15 1\n'y 30 1", ("hx", "hy")),
            ("count t where a > 90", "", ("hx", "hy")),
            ("count t by a where a > 90", "", ("hx", "hy")),
            ("least t a", "1", ("lo",)),
            ("greatest t a", "30", ("hx", "hy")),
            ("least t w where a > 13", "'x", ("hy", "hx")),
            ("greatest t w", "'y", ("hy", "lo")),
            ("least lo a where a > 5", "null", ("lo",)),
            ("looked", "lo", ("lo",)),
        ]:
            found = run(store, text)
            self.assertEqual(found, due, text)
            self.assertEqual(store.looked, looked, text)
        self.assertEqual(store.steps, 7)


class ErrorsTest(StoreTest):
    def test_errors_of_the_methods(self):
        store = store_of(*EXAMPLE, "create u a:number! w:word", "check t c a < 99", "key u a", "insert u 5 'x")
        for text, error, fields in [
            ("create t x:number by range y", TableExists, {"table": "t"}),
            ("create v x:number by range y", UnknownColumn, {"value": "y"}),
            ("create v x:word by rest x", InvalidCut, {}),
            ("part new of t rest 2 0", InvalidBound, {}),
            ("part new of x rest 2 0", UnknownTable, {"value": "x"}),
            ("part new of t range 5 to 12", Overlap, {"part": "hi"}),
            ("part new of hi values 'y", InDefault, {"row": (15, "y")}),
            ("drop x", UnknownTable, {"value": "x"}),
            ("check t c a <", CheckExists, {"label": "c"}),
            ("check t d a < 9 and w", InvalidText, {"index": 5}),
            ("check t d a < $1", InvalidText, {"index": 2}),
            ("check t d where", InvalidText, {"index": 0}),
            ("check t d a < 4", CheckFails, {"label": "d", "row": (12, None)}),
            ("uncheck t d", UnknownCheck, {"label": "d"}),
            ("key u a", KeyExists, {}), ("key u w w", InvalidKey, {}), ("unkey u w", UnknownKey, {}),
            ("insert t 1 'x 2", InvalidRow, {"value": (1, "x", 2)}),
            ("insert t null 'x", InvalidRow, {"value": (None, "x")}),
            ("insert t 5 'x / 500 'y", NoPart, {"row": (500, "y")}),
            ("delete x where a <", UnknownTable, {"value": "x"}),
            ("delete t where a <", InvalidText, {"index": 2}),
            ("delete t where a = $1", InvalidText, {"index": 2}),
            ("delete t where a = 1 where a = 2", InvalidText, {"index": 3}),
            ("update t set b 5 where a = $1", InvalidText, {"index": 2}),
            ("update x set b 5 where a = $1", UnknownTable, {"value": "x"}),
            ("update t set b 5 a 'x where a = 1", UnknownColumn, {"value": "b"}),
            ("update t set w 5 b 5", InvalidChange, {"column": "w"}),
            ("update t set w add 5", InvalidChange, {"column": "w"}),
            ("ask t columns x order y limit 5 where a = 1 or b", InvalidText, {"index": 4}),
            ("ask t columns x order y where w = $1 or w = b", InvalidText, {"index": 2}),
            ("ask x where w = $1", UnknownTable, {"value": "x"}),
            ("ask t columns a x order y", UnknownColumn, {"value": "x"}),
            ("ask t columns a order y", UnknownColumn, {"value": "y"}),
            ("ask t columns a order a -y", UnknownColumn, {"value": ("y", "down")}),
            ("count t by x where a = $2", InvalidText, {"index": 2}),
            ("count t by x where a = 2", UnknownColumn, {"value": "x"}),
            ("least t x where a = $1", InvalidText, {"index": 2}),
            ("greatest t x", UnknownColumn, {"value": "x"}),
            ("detach t", NotPart, {"table": "t"}),
            ("split lo into x range 0 to 5 / y range 6 to 10", Gap, {"key": (5,)}),
            ("merge lo into x range 0 to 5", Gap, {"key": (5,)}),
            ("rebound lo range 0 to 12", Overlap, {"part": "hi"}),
            ("redo", NothingToRedo, {}),
        ]:
            self.refuse(store, lambda: run(store, text), error, **fields)
            self.assertTrue(is_statement(text), text)
        self.refuse(Store(), lambda: run(Store(), "undo"), NothingToUndo)

    def test_schemas_come_first(self):
        store = store_of("create t a:number")
        for text in [
            "create t a:number b:number c:number d:number e:number f:number by range x",
            "create t a:number a:word! by rest x", "create u a:word a:word",
        ]:
            self.refuse(store, lambda: run(store, text), InvalidSchema)
        self.assertEqual(run(store, "create u a:number b:number c:number d:number e:word!"), "ok")

    def test_a_word_with_a_newline(self):
        store = store_of("create t a:number")
        self.refuse(store, lambda: run(store, "ask t\n"), InvalidStatement)
        self.refuse(store, lambda: run(store, "ask t where a =\n5"), InvalidText, index=1)
        self.refuse(store, lambda: run(store, "check t c a = 5\n"), InvalidText, index=2)


class GrammarTest(StoreTest):
    samples = [
        "create n a:number! w:word by range a", "create n a:number", "create n b:word! by values b",
        "create n a:number b:word c:number! by range c b",
        "part n of t range 100 to 200 by values w", "part n of hi values 'q", "part n of t rest 4 1", "part n of t default by rest a",
        "drop t", "check t one a > 0 and a < 500", "uncheck t one", "key t a w", "unkey t w a",
        "insert t 1 'x / 12 null / 15 'y", "insert t -5 null", "delete t", "delete t where a = 5 or w = 'x",
        "update t set a 5 w 'q where a = 1", "update t set a add -3 w null", "update t set a add 5",
        "ask t columns a w order -w a limit 3 where a > 5", "ask t", "ask t order a", "ask t columns w limit 0",
        "count t by w a where a > 1", "count t", "count t by a", "least t a where w is null", "least t w", "greatest t w",
        "greatest t a where a < 12", "looked", "undo", "redo",
        "attach u to t range 100 to 200", "attach u to t default", "attach u to t range 100 'a to 200 -", "detach hi",
        "split lo into la range 0 to 5 / lb range 5 to 10", "split hy into n default", "merge lo hx into n range 0 to 10",
        "merge hx hy into hx default", "rebound lo range 0 to 9", "rebound hx values null 'x 'y",
    ]
    words = [
        "t", "name", "self", "of", "to", "into", "by", "where", "set", "add", "columns", "order", "limit", "/", "5", "-5", "05", "-0",
        str(TOP), str(TOP + 1), "'x", "'X", "null", "range", "values", "rest", "default", "-", "+", "-a", "a:number", "w:word!", "a:",
        "a:number!!", ":word", "A", "lowercase", "a\n", "$1", "not", "looked", "",
    ]

    def check(self, store, text):
        """Checks that all right statements, and no others, are done or refused by the method."""
        error = raised(lambda: run(store.copied(), text))
        self.assertIs(type(error) is InvalidStatement, not is_statement(text), (text, error))
        return error is None

    def test_samples(self):
        store = store_of(*EXAMPLE, "create u a:number! w:word")
        for text in self.samples:
            self.assertTrue(is_statement(text), text)
            self.check(store, text)

    def test_one_word_wrong(self):
        store = store_of(*EXAMPLE, "create u a:number! w:word", "key t w a", "check t one a < 90")
        done = 0
        for text in self.samples:
            words = text.split(" ")
            for at in range(len(words) + 1):
                for word in self.words:
                    self.check(store, " ".join(words[:at] + [word] + words[at:]))
                    done += self.check(store, " ".join(words[:at] + [word] + words[at + 1:]))
                done += self.check(store, " ".join(words[:at] + words[at + 1:]))
                done += self.check(store, " ".join(words[:at] + words[at:at + 1] * 2 + words[at + 1:]))
                self.check(store, " ".join(words[:at] + words[at + 1:at + 2] + words[at:at + 1] + words[at + 2:]))
                self.check(store, " ".join(words[:at]))
        self.assertGreater(done, 200)

    def test_any_values(self):
        store = store_of(*EXAMPLE)
        for value in ANY_VALUES + [["undo"], ("ask t",), "Undo", "undo ", " undo", "ask  t", "undo\n", "asks t", "select t", "rows_of t",
                                   "ask", "create", "merge into x default", "split lo into", "insert t /", "insert t 1 'x /",
                                   "update t set a 5 a 6", "update t set w 'x a 5 w add 6", "update t set a add 5 a add 6"]:
            self.refuse(store, lambda: run(store, value), InvalidStatement)
            self.refuse(store, lambda: run(store=store, text=value), InvalidStatement)

    def test_tables_with_names_like_statements(self):
        store = store_of("create create part:number number:word", "key create part", "insert create 5 'range", "create name name:number self:number")
        self.assertEqual(run(store, "ask create columns number part"), "'range 5")
        self.assertEqual(run(store, "check create check part > 0"), "1")
        self.assertEqual(run(store, "insert name 5 6"), "1")
        for text in ("update name set name 5", "update name set self add 1"):
            self.refuse(store, lambda: run(store, text), InvalidStatement)


if __name__ == "__main__":
    unittest.main()
