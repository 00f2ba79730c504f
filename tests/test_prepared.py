"""Point 90: prepared questions."""

import random
import unittest

from partwise.bounds import Default, Range, Values
from partwise.columns import Column, Schema
from partwise.cuts import Cut
from partwise.errors import InvalidLimit, InvalidParameters, InvalidText, Stale, UnknownColumn, UnknownTable
from tests.histories import History, Pair, outcome
from tests.samples import ANY_VALUES, Kept
from tests.stores import EXAMPLE, StoreTest, store_of


class PreparedTest(StoreTest):
    def test_run(self):
        store = store_of(*EXAMPLE)
        order = [("a", "down")]
        kept = Kept(order)
        prepared = store.prepare("t", "w = $1 or a < $2", order=order, limit=2)
        self.assertTrue(kept.is_kept())
        self.assertTrue(prepared.plan == store.plan_for("t", "w = $1 or a < $2", order=[("a", "down")]))
        self.assertEqual(store.looked, ())
        for parameters in [("x", 3), ("x", None), (None, None), ("q", 100), ("y", 2)]:
            due = store.ask("t", "w = $1 or a < $2", parameters, order=order, limit=2)
            looked = store.looked
            store.ask("lo", "a = 500")
            self.assertEqual(prepared.run(*parameters), due)
            self.assertEqual(store.looked, looked)
        order.clear()
        self.assertEqual(prepared.run("x", 1), [(20, "x"), (1, "x")])
        self.assertEqual(store.prepare(name="hi").run(), [(12, None), (15, "y"), (20, "x")])
        self.assertEqual(store.prepare("t", limit=0).run(), [])
        self.assertEqual(store.looked, ())

    def test_errors(self):
        store = store_of(*EXAMPLE)
        for arguments, named, error, fields in [
            (("x", "a >"), {"order": ["z"]}, UnknownTable, {"value": "x"}),
            (("t", "a >"), {"order": ["z"]}, InvalidText, {"index": 2}),
            (("t", "a > $1"), {"order": ["a", "z"], "limit": -1}, UnknownColumn, {"value": "z"}),
            (("t", "a > $1"), {"order": ["a"], "limit": -1}, InvalidLimit, {"value": -1}),
        ]:
            self.refuse(store, lambda: store.prepare(*arguments, **named), error, **fields)
        for value in ANY_VALUES:
            self.refuse(store, lambda: store.prepare(value), UnknownTable, value=value)
            if value != "":
                self.refuse(store, lambda: store.prepare("t", value), InvalidText, index=1 if value in ("a", "a b") else 0)
            if value != "a":
                self.refuse(store, lambda: store.prepare("t", order=["a", value]), UnknownColumn, value=value)
            if value is not None and (isinstance(value, bool) or not isinstance(value, int) or value < 0):
                self.refuse(store, lambda: store.prepare("t", limit=value), InvalidLimit, value=value)

    def test_parameters(self):
        store = store_of(*EXAMPLE)
        prepared = store.prepare("t", "a = $1")
        store.ask("lo")
        for parameters in [(), (1, 2), ("x",)] + [(value,) for value in ANY_VALUES]:
            if len(parameters) != 1 or not (parameters[0] is None or type(parameters[0]) is int and abs(parameters[0]) <= 10 ** 30):
                self.refuse(store, lambda: prepared.run(*parameters), InvalidParameters)
        self.refuse(store, lambda: store.prepare("t").run(5), InvalidParameters)
        store.drop("lo")
        # Both errors are due.
        self.refuse(store, lambda: prepared.run(), Stale)

    def test_it_goes_stale_and_comes_back(self):
        store = store_of(*EXAMPLE)
        prepared = store.prepare("t", "a > $1", order=["a"])
        plan = prepared.plan
        for change, is_stale in [
            (lambda: store.add_rows("t", [(5, "x")]), False),
            (lambda: store.delete_rows("t"), False),
            (lambda: store.create("u", store.schema_of("t")), False),
            (lambda: store.add_check("lo", "c", "a > 7"), False),
            (lambda: store.add_key("t", "a", "w"), False),
            (lambda: store.create_part("new", "t", Range((200,), (300,))), True),
            (lambda: store.drop("new"), False),
            (lambda: store.add_check("lo", "d", "a < 7"), True),
            (lambda: store.undo(), False),
            (lambda: store.redo(), True),
            (lambda: store.drop_check("lo", "d"), False),
            (lambda: store.split_part("hx", [("ha", Values(None)), ("hx", Values("x"))]), True),
            (lambda: store.merge_parts(["ha", "hx"], "hx", Values(None, "x")), False),
            (lambda: store.detach("hi"), True),
            (lambda: store.attach("hi", "t", Range((10,), (50,))), False),
            (lambda: store.rebound("lo", Range((0,), (9,))), False),
            (lambda: store.rebound("lo", Range((50,), (90,))), True),
            (lambda: store.drop("t"), True),
            (lambda: store.create("t", Schema(Column("a", "number"), Column("w", "word"))), True),
            (lambda: store.undo(), True),
            (lambda: store.undo(), True),
            (lambda: store.undo(), False),
            (lambda: store.in_work(lambda same: (same.drop("t"), same.create("t", Schema(Column("a", "number"))))), True),
        ]:
            change()
            self.assertIs(prepared.is_stale(), is_stale)
            self.assertIs(prepared.plan, plan)
            if is_stale:
                self.refuse(store, lambda: prepared.run(5), Stale)
            else:
                self.assertEqual(prepared.run(5), store.ask("t", "a > 5", order=["a"]))

    def test_a_new_table_of_this_name(self):
        store = store_of("create t a:number", "insert t 1")
        prepared = store.prepare("t", "a = $1")
        store.drop("t")
        self.assertIs(prepared.is_stale(), True)
        store.create("t", Schema(Column("a", "number")))
        self.assertIs(prepared.is_stale(), False)
        self.assertEqual(prepared.run(1), [])
        store.drop("t")
        store.create("t", Schema(Column("a", "number", is_required=True)))
        self.assertIs(prepared.is_stale(), True)
        store.drop("t")
        store.create("t", Schema(Column("a", "number")), Cut("range", "a"))
        self.assertIs(prepared.is_stale(), True)
        store.create_part("u", "t", Default())
        self.assertIs(prepared.is_stale(), True)

    def test_renew(self):
        store = store_of(*EXAMPLE)
        prepared = store.prepare("t", "w = $1", order=["w"], limit=3)
        old = prepared.plan
        store.drop("hx")
        self.assertIsNone(prepared.renew())
        self.assertIs(prepared.is_stale(), False)
        self.assertFalse(prepared.plan == old)
        self.assertEqual(prepared.run("x"), [(1, "x")])
        kept = prepared.plan
        for schema, error, fields in [
            (None, UnknownTable, {"value": "t"}),
            (Schema(Column("a", "number")), InvalidText, {"index": 0}),
            (Schema(Column("w", "number"), Column("b", "word")), None, {}),
        ]:
            store.drop("t") if "t" in store.names else None
            if schema is not None:
                store.create("t", schema)
            if error is not None:
                self.refuse(store, prepared.renew, error, **fields)
                self.assertIs(prepared.plan, kept)
                self.assertIs(prepared.is_stale(), True)
        prepared.renew()
        store.add_rows("t", [(5, "x"), (6, None)])
        # The parameter is a number now.
        self.assertEqual(prepared.run(5), [(5, "x")])
        self.refuse(store, lambda: prepared.run("x"), InvalidParameters)
        prepared = store.prepare("t", "b = 'x", order=["w"])
        store.drop("t")
        store.create("t", Schema(Column("b", "word")))
        self.refuse(store, prepared.renew, UnknownColumn, value="w")
        self.assertIs(prepared.is_stale(), True)

    def test_it_belongs_to_its_store(self):
        store = store_of(*EXAMPLE)
        prepared = store.prepare("t")
        copy = store.copied()
        copy.drop("lo")
        self.assertIs(prepared.is_stale(), False)
        copy = store.copied()
        store.drop("lo")
        self.assertIs(prepared.is_stale(), True)
        self.assertIs(copy.prepare("t").is_stale(), False)


class SearchTest(unittest.TestCase):
    """Compares with plans and answers of the model."""

    def test_random_histories(self):
        chooser = random.Random(90)
        found = {True: 0, False: 0}
        for _ in range(6):
            pair = Pair(self)
            history = History(pair, chooser)
            history.begin()
            prepared = []
            for _ in range(50):
                history.step()
                if len(prepared) < 8 or history.some(1, 4):
                    self.prepare(pair, history, prepared)
                for one in prepared[-8:]:
                    found[self.check(pair, *one)] += 1
        self.assertGreater(min(found.values()), 100)

    def prepare(self, pair, history, prepared):
        name = history.table()
        if history.found(name) is not None:
            schema = history.schema(name)
            where, _ = history.where(schema, True)
            named = {"order": history.order(schema)}
            plan = outcome(lambda: pair.model.plan_for(name, where, **named))
            if len(plan) == 3:
                prepared.append((pair.store.prepare(name, where, **named), name, schema, where, named, plan))

    def check(self, pair, prepared, name, schema, where, named, plan):
        table = pair.model.tables.get(name)
        is_stale = (
            table is None or table.schema != schema
            or outcome(lambda: pair.model.plan_for(name, where, **named)) != plan
        )
        self.assertIs(prepared.is_stale(), is_stale)
        self.assertEqual((prepared.plan.leaves, prepared.plan.whole, prepared.plan.runs), plan)
        looked = pair.store.looked
        parameters = [None] * (where.count("$") if isinstance(where, str) else 0)
        if is_stale:
            self.assertEqual(outcome(lambda: prepared.run(*parameters)), (Stale, {}))
            self.assertEqual(pair.store.looked, looked)
        else:
            due = outcome(lambda: pair.store.ask(name, where, parameters, **named))
            due_looked = pair.store.looked
            self.assertEqual(outcome(lambda: prepared.run(*parameters)), due)
            self.assertEqual(pair.store.looked, due_looked)
        pair.model.looked = pair.store.looked
        return is_stale


if __name__ == "__main__":
    unittest.main()
