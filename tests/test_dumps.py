"""Point 102: dump and load."""

import random
import unittest

from partwise.columns import Column, Schema
from partwise.dumps import dump, load
from partwise.errors import InvalidStatement, UnknownTable
from partwise.store import CountingStore, GuardedCountingStore, GuardedStore, Store
from tests.histories import History, Pair
from tests.samples import ANY_VALUES, Kept, raised
from tests.stores import EXAMPLE, LAST, TOP, StoreTest, store_of
from tests.test_statements import is_statement


class LoadTest(StoreTest):
    def test_load(self):
        statements = list(EXAMPLE)
        kept = Kept(statements)
        store = load(statements)
        self.assertTrue(kept.is_kept())
        self.assertIs(type(store), Store)
        self.assertEqual((store.steps, store.count_rows("t")), (6, 5))
        self.assertTrue(load(tuple(EXAMPLE)) == store)
        self.assertTrue(load(statements=[]) == Store())
        store = load(EXAMPLE + ["ask hx", "undo", "undo"])
        self.assertEqual((store.looked, store.steps, store.leaves_of("t")), (("hx",), 4, ("hx", "lo")))

    def test_errors(self):
        for value in ANY_VALUES:
            error = raised(lambda: load(EXAMPLE + [value]))
            self.assertIs(type(error), InvalidStatement)
        error = raised(lambda: load(["create t a:number", "drop u", 5]))
        self.assertIs(type(error), UnknownTable)
        self.assertEqual(error.value, "u")


class DumpTest(StoreTest):
    def check(self, store):
        before, looked, steps = store.copied(), store.looked, store.steps
        statements = dump(store)
        self.assertIs(type(statements), list)
        for text in statements:
            self.assertTrue(is_statement(text), text)
        loaded = load(statements)
        self.assertIs(type(loaded), Store)
        self.assertTrue(loaded == store and store == loaded, statements)
        self.assertTrue(store == before)
        self.assertEqual((store.looked, store.steps), (looked, steps))
        self.assertEqual(dump(store), statements)
        statements.clear()
        self.assertEqual(len(dump(store)) > 0, len(store.names) > 0)

    def test_known_stores(self):
        for statements in [
            [], EXAMPLE, ["create t a:number"],
            # Parts whose names stand before those of their parents.
            ["create z a:number b:word! by range b a", "part y of z range - - to 'b 5 by rest a", "part b of y rest 4 3", "part a of y default by values b",
             "part x of a values 'a 'aaa", "part c of z default", "key z b a", "check z c a > 0 or b < 'x",
             "check y c a > 1", "check x d not a = 7", "insert x 9 'a / 9 'aaa", f"insert c {TOP} '{LAST}"],
            ["create t a:number b:number", "key t b", "key t a", "insert t null null / null null / 5 6"],
            ["create a w:word! by values w", "part b of a values 'x", "part c of a default", "insert a 'x / 'x / 'y", "detach b"],
            ["create t a:number by range a", "part p of t range 0 to 5", "insert p 1 / 1 / 2", "check p c a > 0", "undo"],
        ]:
            self.check(store_of(*statements))

    def test_forty_tables(self):
        store = store_of("create t a:number b:number by range a", *[f"part p{x} of t range {k} to {k + 1} by rest b" for k, x in enumerate("abcdef")],
                         *[f"part p{x}{y} of p{x} rest 6 {k}" for x in "abcdef" for k, y in enumerate("klmno")], "create u a:number",
                         "create v a:number", "create w w:word!", "insert t 0 0 / 1 1 / 2 2 / 3 3 / 4 4 / 5 7")
        self.assertEqual(len(store.names), 40)
        self.check(store)

    def test_other_classes(self):
        for store in [GuardedStore(2), CountingStore(), GuardedCountingStore(3)]:
            store.create("t", Schema(Column("a", "number"), Column("name", "word", is_required=True)))
            store.add_rows("t", [(None, "x"), (-5, "y")])
            store.add_key("t", "name", "a")
            self.check(store)

    def test_in_the_middle_of_histories(self):
        chooser = random.Random(102)
        for count in range(6):
            pair = Pair(self, [None, 3][count % 2], count % 3 == 0)
            history = History(pair, chooser)
            history.begin()
            for _ in range(40):
                history.step()
                self.check(pair.store)
            pair.store.in_work(self.check)


if __name__ == "__main__":
    unittest.main()
