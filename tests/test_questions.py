"""Points 60 to 64: ask, plans, groups, extremes."""

import itertools
import random
import unittest

from partwise.errors import InvalidLimit, InvalidParameters, InvalidText, UnknownColumn, UnknownTable
from tests.histories import grown
from tests.samples import ANY_VALUES, EqualToAll, Kept, check_equal
from tests.stores import EXAMPLE, LAST, TOP, StoreTest, store_of

ROWS = [(1, "x"), (3, None), (12, None), (15, "y"), (20, "x")]


class ExampleTest(unittest.TestCase):
    def test_example(self):
        store = store_of(*EXAMPLE)
        self.assertEqual(
            [store.ask('t', order=['a'], limit=2), store.looked, store.plan_for('t', order=['a']).runs],
            [[(1, 'x'), (3, None)], ('lo',), (('lo',), ('hx', 'hy'))],
        )


class AskTest(StoreTest):
    def test_rows_and_columns(self):
        store = store_of(*EXAMPLE)
        self.assertEqual(store.ask("t"), ROWS)
        self.assertEqual(store.ask("t", "w = $1", ["x"]), [(1, "x"), (20, "x")])
        self.assertEqual(store.ask("t", "w = $1", (None,)), [])
        self.assertEqual(store.ask("t", "not w = 'x"), [(15, "y")])
        self.assertEqual(store.ask("hi", "w is null", columns=["w", "a", "w"]), [(None, 12, None)])
        self.assertEqual(store.ask("t", columns=[]), [()] * 5)
        self.assertEqual(store.ask("t", columns=("a",)), [(1,), (3,), (12,), (15,), (20,)])
        self.assertEqual(store.ask(name="lo", where="", parameters=(), columns=None, order=(), limit=None), ROWS[:2])
        store.ask("t").clear()
        self.assertEqual(len(store.ask("t")), 5)

    def test_order(self):
        store = store_of("create t a:number b:number w:word",
                         "insert t 1 2 'b / null 2 'a / 1 null 'b / 2 2 null / 2 2 'b / null null null / 1 2 'b")
        for order, due in [
            ([], ["nnn", "n2a", "1nb", "12b", "12b", "22n", "22b"]),
            (["a"], ["nnn", "n2a", "1nb", "12b", "12b", "22n", "22b"]),
            ([("a", "down")], ["22n", "22b", "1nb", "12b", "12b", "nnn", "n2a"]),
            (["w"], ["nnn", "22n", "n2a", "1nb", "12b", "12b", "22b"]),
            ([("w", "down")], ["1nb", "12b", "12b", "22b", "n2a", "nnn", "22n"]),
            (["b", ("a", "down")], ["1nb", "nnn", "22n", "22b", "12b", "12b", "n2a"]),
            ([("b", "down"), "w"], ["22n", "n2a", "12b", "12b", "22b", "nnn", "1nb"]),
            (["a", ("a", "down")], ["nnn", "n2a", "1nb", "12b", "12b", "22n", "22b"]),
            ([("a", "down"), "a", ("b", "down")], ["22n", "22b", "12b", "12b", "1nb", "n2a", "nnn"]),
            (("b", "w", ("a", "down")), ["nnn", "1nb", "22n", "n2a", "22b", "12b", "12b"]),
        ]:
            found = ["".join("n" if value is None else str(value) for value in row) for row in store.ask("t", order=order)]
            self.assertEqual(found, due, order)
            columns = store.ask("t", order=order, columns=["w"])
            self.assertEqual(["n" if value is None else value for (value,) in columns], [text[2] for text in due])

    def test_limits(self):
        store = store_of(*EXAMPLE)
        for limit in range(8):
            self.assertEqual(store.ask("t", limit=limit), ROWS[:limit])
        self.assertEqual(store.ask("t", limit=10 ** 59), ROWS)
        self.assertEqual(store.ask("t", order=[("a", "down")], limit=2), ROWS[:2:-1])

    def test_looked(self):
        store = store_of(*EXAMPLE)
        for order, limit, looked in [
            ((), None, ("lo", "hx", "hy")), ((), 0, ()), ((), 1, ("lo",)), ((), 2, ("lo",)), ((), 3, ("lo", "hx", "hy")),
            ([("a", "down")], 1, ("hx", "hy")), ([("a", "down")], 3, ("hx", "hy")), ([("a", "down")], 4, ("hx", "hy", "lo")),
            (["w"], 1, ("hx", "hy", "lo")), ([("w", "down")], None, ("hx", "hy", "lo")),
        ]:
            store.ask("t", order=order, limit=limit)
            self.assertEqual(store.looked, looked, (order, limit))
        for where, parameters, looked in [
            ("a < 10", (), ("lo",)), ("a < 11 and w is null", (), ("lo", "hx")), ("w = $1", ["y"], ("lo", "hy")),
            ("w = $1 and a > 9", ["x"], ("hx",)), ("w = $1", [None], ()), ("a > 99", (), ()), ("not a < 12", (), ("hx", "hy")),
        ]:
            store.ask("t", where, parameters)
            self.assertEqual(store.looked, looked, where)
            self.assertEqual(store.looked, tuple(itertools.chain(*store.plan_for("t", where, parameters).runs)))
        store.ask("t", "a < 5")
        self.assertIs(type(store.looked), tuple)
        self.refuse(store, lambda: store.ask("t", "b < 5"), InvalidText, index=0)
        self.assertEqual(store.looked, ("lo",))

    def test_equal_rows_in_two_runs_do_not_matter(self):
        # The possible rows of one leaf are behind those of the other, which may be empty.
        store = store_of("create t a:number! by range a", "part p of t range 0 to 5", "part q of t range 5 to 9", "insert t 7 / 8")
        self.assertEqual((store.ask("t", limit=1), store.looked), ([(7,)], ("p", "q")))

    def test_each_error_and_the_next_one(self):
        store = store_of(*EXAMPLE)
        for arguments, named, error, fields in [
            (("x", "a >", 5), {}, UnknownTable, {"value": "x"}),
            (("t", "a >", 5), {}, InvalidText, {"index": 2}),
            (("t", "a > 5", 5), {"columns": ["x"]}, InvalidParameters, {}),
            (("t", "a > $1", None), {"columns": ["x"]}, InvalidParameters, {}),
            (("t",), {"columns": ["a", "x", "y"], "order": ["z"]}, UnknownColumn, {"value": "x"}),
            (("t",), {"columns": ["a"], "order": ["a", ("z", "down"), "y"], "limit": -1}, UnknownColumn, {"value": ("z", "down")}),
            (("t",), {"order": ["a", ["a", "down"]], "limit": -1}, UnknownColumn, {"value": ["a", "down"]}),
            (("t",), {"order": [("a", "up")]}, UnknownColumn, {"value": ("a", "up")}),
            (("t",), {"order": [("a",)]}, UnknownColumn, {"value": ("a",)}),
            (("t",), {"order": [("a", "down", "down")]}, UnknownColumn, {"value": ("a", "down", "down")}),
            (("t",), {"order": [(("a", "down"), "down")]}, UnknownColumn, {"value": (("a", "down"), "down")}),
            (("t",), {"limit": -1}, InvalidLimit, {"value": -1}),
        ]:
            self.refuse(store, lambda: store.ask(*arguments, **named), error, **fields)
            self.assertEqual(store.looked, ())

    def test_any_values(self):
        store = store_of(*EXAMPLE)
        for value in ANY_VALUES:
            if value != "a":
                self.refuse(store, lambda: store.ask("t", columns=["a", value]), UnknownColumn, value=value)
                self.refuse(store, lambda: store.ask("t", order=["a", value]), UnknownColumn, value=value)
                self.refuse(store, lambda: store.plan_for("t", order=["a", value]), UnknownColumn, value=value)
                self.refuse(store, lambda: store.count_groups("t", by=["a", value]), UnknownColumn, value=value)
                self.refuse(store, lambda: store.is_separate("t", ["a", value]), UnknownColumn, value=value)
                self.refuse(store, lambda: store.extreme("t", value), UnknownColumn, value=value)
            if value is not None and (isinstance(value, bool) or not isinstance(value, int) or value < 0):
                self.refuse(store, lambda: store.ask("t", limit=value), InvalidLimit, value=value)
            for call in (
                lambda: store.ask(value), lambda: store.plan_for(value), lambda: store.count_groups(value),
                lambda: store.is_separate(value, []), lambda: store.extreme(value, "a"),
            ):
                self.refuse(store, call, UnknownTable, value=value)
            if value not in ([], ()):
                for call in (
                    lambda: store.ask("t", "", value), lambda: store.count_groups("t", "", value),
                    lambda: store.extreme("t", "a", "", value),
                ):
                    self.refuse(store, call, InvalidParameters)
            if value not in ([], (), None):
                self.refuse(store, lambda: store.plan_for("t", "", value), InvalidParameters)
                self.refuse(store, lambda: store.is_separate("t", [], "", value), InvalidParameters)

    def test_arguments_are_not_changed(self):
        store = store_of(*EXAMPLE)
        columns, order, parameters = ["w", "a"], [("w", "down"), "a"], ["x"]
        kept = Kept(columns, order, parameters)
        store.ask("t", "w = $1", parameters, columns=columns, order=order, limit=3)
        store.plan_for("t", "w = $1", parameters, order=order)
        store.count_groups("t", "w = $1", parameters, by=columns)
        store.is_separate("t", columns, "w = $1", parameters)
        self.assertTrue(kept.is_kept())


class PlanTest(StoreTest):
    def check(self, store, named, leaves, whole, runs, name="t"):
        plan = store.plan_for(name, **named)
        self.assertEqual((plan.leaves, plan.whole, plan.runs), (tuple(leaves), tuple(whole), tuple(runs)), named)
        self.assertEqual(store.looked, ())

    def test_leaves_and_whole(self):
        store = store_of(*EXAMPLE, "check lo c a <> 4")
        for where, parameters, leaves, whole in [
            ("", None, ["hx", "hy", "lo"], ["hx", "hy", "lo"]),
            ("", (), ["hx", "hy", "lo"], ["hx", "hy", "lo"]),
            ("a >= 10", None, ["hx", "hy"], ["hx", "hy"]),
            ("a >= 9", None, ["hx", "hy", "lo"], ["hx", "hy"]),
            ("a = 4", None, [], []),
            ("a <> 4", None, ["hx", "hy", "lo"], ["hx", "hy", "lo"]),
            ("w is not null and w <> 'x", None, ["hy", "lo"], ["hy"]),
            ("w <> 'x", None, ["hy", "lo"], ["hy"]),
            ("w = w", None, ["hx", "hy", "lo"], ["hy"]),
            ("a = $1", None, ["hx", "hy", "lo"], []),
            ("a = $1", [4], [], []),
            ("a = $1", [20], ["hx", "hy"], []),
            ("a < $1", [10], ["lo"], ["lo"]),
            ("a < $1", None, ["hx", "hy", "lo"], []),
            ("a < $1 or a > 20", None, ["hx", "hy", "lo"], []),
            ("a >= 10 or a = $1", None, ["hx", "hy", "lo"], ["hx", "hy"]),
            ("a = $1 or a <> $1", None, ["hx", "hy", "lo"], []),
            ("a = $1 or a <> $1", [5], ["hx", "hy", "lo"], ["hx", "hy", "lo"]),
            ("a = $1 or a <> $1", [None], [], []),
        ]:
            plan = store.plan_for("t", where, parameters)
            self.assertEqual((plan.leaves, plan.whole), (tuple(leaves), tuple(whole)), (where, parameters))

    def test_runs(self):
        store = store_of("create t a:number by range a", "part d of t range 20 to 30", "part c of t range 0 to 10",
                         "part b of t range 10 to 20")
        self.check(store, {}, "bcd", "bcd", [("c",), ("b",), ("d",)])
        self.check(store, {"order": [("a", "down")]}, "bcd", "bcd", [("d",), ("b",), ("c",)])
        store.create_part("a", "t", store.bound_of("d").read("default"))
        self.check(store, {}, "abcd", "abcd", [("a", "b", "c", "d")])
        self.check(store, {"where": "a < 20"}, "abc", "bc", [("a",), ("c",), ("b",)])
        self.check(store, {"where": "a < 20", "order": [("a", "down")]}, "abc", "bc", [("b",), ("c",), ("a",)])
        self.check(store, {"where": "a is null or a > 5"}, "abcd", "bd", [("a", "b", "c", "d")])
        self.check(store, {"where": "a is null or a > 5 and a < 30"}, "abcd", "bd", [("a",), ("c",), ("b",), ("d",)])
        self.check(store, {"where": "a is null or a > 5 and a < 30", "order": [("a", "down")]}, "abcd", "bd",
                   [("d",), ("b",), ("c",), ("a",)])

    def test_the_least_of_several_orders(self):
        store = store_of("create t a:number! w:word! by values w", "part e of t values 'p", "part d of t values 'q",
                         "part c of t values 'r")
        self.check(store, {"order": ["w"]}, "cde", "cde", [("e",), ("d",), ("c",)])
        self.check(store, {}, "cde", "cde", [("c", "d", "e")])
        # No row of one leaf comes behind one of the other, whatever their order is: they are equal in what is possible.
        store = store_of("create t a:number! b:number! by rest a", "part q of t rest 2 0", "part p of t rest 2 1",
                         "check q c a = 4", "check p c a = 5 and b = 2")
        self.check(store, {"order": ["b"]}, "pq", "pq", [("p", "q")])
        self.check(store, {"where": "b < 2"}, "q", "", [("q",)])
        self.check(store, {"where": "b >= 2", "order": ["b"]}, "pq", "p", [("p", "q")])
        self.check(store, {"where": "b > 2 or a = 5", "order": ["b"]}, "pq", "p", [("p",), ("q",)])
        self.check(store, {"where": "b >= 2 or a = 5", "order": [("b", "down")]}, "pq", "p", [("q",), ("p",)])

    def test_free_orders_take_the_least_leaves_first(self):
        store = store_of("create t a:number b:number! by range a", "part z of t range 0 to 1", "part y of t range 5 to 6",
                         "part x of t range 7 to 8", "check z c b = 1", "check y c b = 1", "check x c b = 1")
        self.check(store, {"order": ["b"]}, "xyz", "xyz", [("z",), ("y",), ("x",)])
        # Equal rows cannot stand in two leaves, so the order is free only where a leaf has no row in common with it.
        self.check(store, {"where": "a < 7", "order": [("a", "down")]}, "yz", "yz", [("y",), ("z",)])

    def test_parameters_are_the_same_for_both_rows(self):
        store = store_of("create t a:number! w:word! by values w", "part p of t values 'p", "part q of t values 'q")
        self.check(store, {"where": "a = $1"}, "pq", "", [("p",), ("q",)])
        self.check(store, {"where": "a = $1", "order": [("w", "down")]}, "pq", "", [("q",), ("p",)])
        self.check(store, {"where": "a < $1"}, "pq", "", [("p", "q")])
        self.check(store, {"where": "a = $1 and w = 'p or a > $1 and w = 'q"}, "pq", "", [("p",), ("q",)])
        self.check(store, {"where": "a = $1 and w = 'p or a < $1 and w = 'q"}, "pq", "", [("q",), ("p",)])
        self.check(store, {"where": "a = $1 and w = 'p or a < $2 and w = 'q"}, "pq", "", [("p", "q")])
        self.check(store, {"where": "a < $1", "parameters": [1 - TOP]}, "pq", "", [("p",), ("q",)])
        self.check(store, {"where": "a < $1", "parameters": [2 - TOP]}, "pq", "", [("p", "q")])
        self.check(store, {"where": "a < $1", "parameters": [-TOP]}, "", "", [])

    def test_chains_of_leaves(self):
        # p and q are mixed, and so are q and r; s stands behind all of them.
        store = store_of("create t a:number! w:word! by values w", *[f"part {x} of t values '{x}" for x in "pqrs"],
                         "check p c a >= 0 and a < 10", "check q c a >= 9 and a < 20", "check r c a >= 19 and a < 30",
                         "check s c a > 29")
        self.check(store, {}, "pqrs", "pqrs", [("p",), ("q",), ("r",), ("s",)])
        self.check(store, {"order": ["a", ("w", "down")]}, "pqrs", "pqrs", [("p", "q", "r"), ("s",)])

    def test_columns_of_an_order_belong_together(self):
        # By a, then b down: (1, 1), (2, 5) and behind them (2, 3).
        store = store_of("create t a:number! b:number! w:word! by values w", "part p of t values 'p", "part q of t values 'q",
                         "check p c a = 1 and b = 1 or a = 2 and b = 5", "check q c a = 2 and b = 3")
        self.check(store, {"order": ["a", ("b", "down")]}, "pq", "pq", [("p",), ("q",)])
        self.check(store, {"order": [("a", "down"), "b"]}, "pq", "pq", [("q",), ("p",)])
        self.check(store, {"order": ["a", "b"]}, "pq", "pq", [("p", "q")])
        self.check(store, {"order": [("a", "down"), ("b", "down")]}, "pq", "pq", [("p", "q")])

    def test_equality(self):
        store = store_of(*EXAMPLE)
        plans = [store.plan_for("t"), store.plan_for("t", order=["w"]), store.plan_for("t", "a > 0"), store.plan_for("lo")]
        for one, other in itertools.product(range(4), repeat=2):
            check_equal(self, plans[one], plans[other], one == other)
        check_equal(self, plans[0], store.plan_for("t", "a >= -5", order=["a"]), True)
        check_equal(self, plans[0], store.copied().plan_for("t"), True)
        for value in ANY_VALUES + [plans[0].leaves, (plans[0].leaves, plans[0].whole, plans[0].runs)]:
            check_equal(self, plans[0], value, False)
        self.assertIs(plans[0] == EqualToAll(), False)

    def test_errors(self):
        store = store_of(*EXAMPLE)
        for arguments, named, error, fields in [
            (("x", "a >", 5), {}, UnknownTable, {"value": "x"}),
            (("t", "a >", 5), {}, InvalidText, {"index": 2}),
            (("t", "a > $1", 5), {"order": ["x"]}, InvalidParameters, {}),
            (("t", "a > $1", []), {"order": ["x"]}, InvalidParameters, {}),
            (("t", "a > $1", ["x"]), {"order": ["x"]}, InvalidParameters, {}),
            (("t", "a > $1", None), {"order": ["a", "x"]}, UnknownColumn, {"value": "x"}),
        ]:
            self.refuse(store, lambda: store.plan_for(*arguments, **named), error, **fields)
        for value in ANY_VALUES:
            if value != "":
                fault = 1 if value in ("a", "a b") else 0
                for call in (
                    lambda: store.plan_for("t", value), lambda: store.is_separate("t", [], value),
                    lambda: store.count_groups("t", value), lambda: store.extreme("t", "a", value),
                ):
                    self.refuse(store, call, InvalidText, index=fault)


class GroupsTest(StoreTest):
    def test_groups(self):
        store = store_of(*EXAMPLE)
        for where, parameters, by, due in [
            ("", (), (), [((), 5)]),
            ("a > 50", (), (), []),
            ("", (), ["w"], [((None,), 2), (("x",), 2), (("y",), 1)]),
            ("a > $1", [3], ("w", "w"), [((None, None), 1), (("x", "x"), 1), (("y", "y"), 1)]),
            ("w = 'x", (), ["w", "a"], [(("x", 1), 1), (("x", 20), 1)]),
            ("w = 'q", (), ["w"], []),
        ]:
            self.assertEqual(list(store.count_groups("t", where, parameters, by=by).items()), due, (where, by))
        self.assertEqual(store.count_groups("t", "a < 11"), {(): 2})
        self.assertEqual(store.looked, ("hx", "hy", "lo"))
        store.count_groups(name="t", where="a < 11 and w = $1", parameters=["x"], by=["a"])
        self.assertEqual(store.looked, ("hx", "lo"))

    def test_separate(self):
        store = store_of("create t a:number b:number by range a", "part p of t range 0 to 10", "part q of t default by values b",
                         "part r of q values null 1", "part s of q default")
        for by, where, parameters, due in [
            (["a"], "", None, False), ([], "", None, False), (["b"], "", None, False), (["a", "b"], "", None, True),
            (["b", "b"], "b is null", None, False), (["a"], "b = 1", None, True), (["a"], "b = 1 and a < 0", None, True),
            ([], "b = 1 and a < 0", None, True), ([], "b = 1", None, False), ([], "a is null and b is null", (), True),
            (["a"], "b = $1", None, True), (["a"], "b = $1", [7], True), (["a"], "b <> $1", None, False), (["b"], "a = $1", None, True),
            (["b"], "a = $1", [-4], True), (["b"], "a <= $1", [-4], True), (["b"], "a <= $1", [4], False),
            (["a"], "b > $1", [1], True), (["a"], "b > $1", [0], False), (["a"], "b = $1", [None], True),
        ]:
            self.assertIs(store.is_separate("t", by, where, parameters), due, (by, where, parameters))
        self.assertEqual(store.looked, ())
        self.assertIs(store.is_separate(name="p", by=()), True)

    def test_none_agrees_with_none(self):
        store = store_of("create t a:number b:number by values a", "part p of t values 1", "part q of t values 2",
                         "check p c b is null", "check q c b is null or b > 5")
        self.assertIs(store.is_separate("t", ["b"]), False)
        self.assertIs(store.is_separate("t", ["b"], "b is not null"), True)

    def test_errors(self):
        store = store_of(*EXAMPLE)
        for arguments, error, fields in [
            (("x", "a >", 5, ["z"]), UnknownTable, {"value": "x"}),
            (("t", "a >", 5, ["z"]), InvalidText, {"index": 2}),
            (("t", "a > $1", 5, ["z"]), InvalidParameters, {}),
            (("t", "a > $1", [5], ["a", "z", "y"]), UnknownColumn, {"value": "z"}),
        ]:
            name, where, parameters, by = arguments
            self.refuse(store, lambda: store.count_groups(name, where, parameters, by=by), error, **fields)
            self.refuse(store, lambda: store.is_separate(name, by, where, parameters), error, **fields)
            self.refuse(store, lambda: store.extreme(name, by[-1], where, parameters), error, **({"value": "y"} if by[1:] else fields))
        self.refuse(store, lambda: store.count_groups("t", "a = $1", None), InvalidParameters)
        self.refuse(store, lambda: store.extreme("t", "z", "a = $1", None), InvalidParameters)


class ExtremeTest(StoreTest):
    def test_values_and_looked(self):
        store = store_of("create t a:number w:word by range a", "part c of t range 0 to 10", "part b of t range 10 to 20",
                         "part a of t range 20 to 30", "part d of t default", "insert t 5 'x / 7 null / 12 'b / 25 'c / null 'a")
        for column, where, parameters, is_greatest, due, looked in [
            ("a", "", (), False, 5, ("d", "c")),
            ("a", "", (), True, 25, ("d", "a")),
            ("a", "a >= 0", (), False, 5, ("c",)),
            ("a", "a >= 0", (), True, 25, ("d", "a")),
            ("a", "a > $1", [7], False, 12, ("c", "b")),
            ("a", "a is null", (), False, None, ()),
            ("a", "w is null", (), False, 7, ("d", "c")),
            ("a", "w is null and a < 5", (), False, None, ("d", "c")),
            ("a", "w > 'f", (), True, 5, ("d", "a", "b", "c")),
            ("w", "", (), False, "a", ("a", "b", "c", "d")),
            ("w", "", (), True, "x", ("a", "b", "c", "d")),
            ("w", "w > 'a", (), False, "b", ("a", "b", "c", "d")),
            ("w", f"w <> '{LAST}", (), True, "x", ("a", "b", "c", "d")),
            ("w", "a is not null", (), False, "b", ("a", "b", "c", "d")),
        ]:
            self.assertEqual(store.extreme("t", column, where, parameters, is_greatest=is_greatest), due, (column, where))
            self.assertEqual(store.looked, looked, (column, where, is_greatest))

    def test_where_it_stops(self):
        store = store_of("create t a:number b:number! by range a", "part p of t range 0 to 10", "part q of t range 10 to 20",
                         "part r of t range 20 to 30", "check p c b >= 5 and b <= 9", "check q c b >= 5 and b <= 7",
                         "check r c b >= 6 and b <= 7", "insert t 1 6 / 11 7 / 21 6 / 22 7")
        for where, is_greatest, due, looked in [
            ("", False, 6, ("p", "q")),
            ("a > 1", False, 6, ("p", "q", "r")),
            ("a > 15", False, 6, ("q", "r")),
            ("", True, 7, ("p", "q")),
            ("b < 8", True, 7, ("p", "q")),
            ("b < 7", True, 6, ("p",)),
            ("a > 2 and b < 7", True, 6, ("p", "q", "r")),
        ]:
            self.assertEqual(store.extreme(name="t", column="b", where=where, is_greatest=is_greatest), due)
            self.assertEqual(store.looked, looked, (where, is_greatest))

    def test_words_are_not_counted_through(self):
        store = store_of("create t w:word by range w", "part q of t range 'b to +", "part p of t range - to 'b", "insert t 'abc / 'abd / 'c")
        self.assertEqual(store.extreme("t", "w"), "abc")
        self.assertEqual(store.looked, ("p",))
        self.assertEqual(store.extreme("t", "w", is_greatest=True), "c")
        self.assertEqual(store.looked, ("q",))


class SearchTest(unittest.TestCase):
    """Compares with the model, that tries out all small rows."""

    def test_random_questions(self):
        chooser = random.Random(60)
        for _ in range(20):
            pair, history = grown(self, chooser, "create_part", "add_check", "add_rows")
            for _ in range(12):
                history.ask()
                history.plan()
                history.plan()
                history.count()
                history.separate()
                history.extreme()
                pair.compare()


if __name__ == "__main__":
    unittest.main()
