"""Points 95 to 97: undo, redo, works, equal stores, copies, guarded and counting stores."""

import itertools
import random
import unittest

from partwise.bounds import Default, Range
from partwise.columns import Column, Schema
from partwise.cuts import Cut
from partwise.errors import (
    DuplicateKey, InvalidLimit, InvalidName, InvalidRow, LeafFull, NothingToRedo, NothingToUndo, UnknownTable,
)
from partwise.store import CountingStore, GuardedCountingStore, GuardedStore, Store
from tests.histories import History, Pair
from tests.samples import ANY_VALUES, EqualToAll, check_equal, raised
from tests.stores import EXAMPLE, StoreTest, store_of

SCHEMA = Schema(Column("a", "number"), Column("w", "word"))


def all_steps(store):
    """Each method of point 95, called so that it is a step."""
    return [
        ("create", lambda: store.create("t", SCHEMA, Cut("range", "a"))),
        ("create_part", lambda: store.create_part("p", "t", Range((0,), (10,)))),
        ("add_check", lambda: store.add_check("t", "c", "a < 90")),
        ("add_key", lambda: store.add_key("t", "a")),
        ("add_rows", lambda: store.add_rows("t", [(1, "x"), (7, "y")])),
        ("change_rows", lambda: store.change_rows("t", "a = 1", w="z")),
        ("split_part", lambda: store.split_part("p", [("p", Range((0,), (5,))), ("q", Range((5,), (10,)))])),
        ("rebound", lambda: store.rebound("q", Range((5,), (20,)))),
        ("merge_parts", lambda: store.merge_parts(["p", "q"], "p", Range((0,), (20,)))),
        ("drop_key", lambda: store.drop_key("t", "a")),
        ("drop_check", lambda: store.drop_check("t", "c")),
        ("delete_rows", lambda: store.delete_rows("t", "a = 7")),
        ("detach", lambda: store.detach("p")),
        ("attach", lambda: store.attach("p", "t", Default())),
        ("drop", lambda: store.drop("t")),
    ]


class UndoTest(StoreTest):
    def test_each_method(self):
        store = Store()
        states = [store.copied()]
        for count, (_, call) in enumerate(all_steps(store), 1):
            call()
            self.assertEqual(store.steps, count)
            states.append(store.copied())
        for one, other in itertools.combinations(range(len(states)), 2):
            self.assertEqual(states[one] == states[other], other == one + 15)
        for _ in range(2):
            for at in range(14, -1, -1):
                self.assertIsNone(store.undo())
                self.assertTrue(store == states[at])
                self.assertEqual(store.steps, at)
            self.refuse(store, store.undo, NothingToUndo)
            for at in range(1, 16):
                self.assertIsNone(store.redo())
                self.assertTrue(store == states[at])
                self.assertEqual(store.steps, at)
            self.refuse(store, store.redo, NothingToRedo)

    def test_steps_that_change_nothing(self):
        store = store_of("create t a:number")
        for call in (
            lambda: store.add_rows("t", []), lambda: store.delete_rows("t", "a = 1"), lambda: store.change_rows("t"),
            lambda: store.change_rows("t", a=5),
        ):
            steps = store.steps
            call()
            self.assertEqual(store.steps, steps + 1)

    def test_what_is_no_step(self):
        store = store_of(*EXAMPLE)
        store.undo()
        steps = store.steps
        for call in (
            lambda: store.ask("t"), lambda: store.plan_for("t"), lambda: store.count_groups("t"), lambda: store.extreme("t", "a"),
            lambda: store.join_rows("t", "t", [("a", "a")]), lambda: store.moves("t", a=5), lambda: store.prepare("t").run(),
            lambda: list(store.rows_of("t")), lambda: store.copied(), lambda: store.possible_row("t"),
            lambda: raised(lambda: store.add_rows("t", [5])), lambda: raised(lambda: store.drop("x")),
        ):
            call()
            self.assertEqual(store.steps, steps)
        # What has been taken back can still be done again.
        store.redo()
        self.assertEqual(store.count_rows("t"), 5)

    def test_a_new_step_makes_redoing_impossible(self):
        store = store_of("create t a:number", "insert t 1", "insert t 2", "undo", "undo")
        self.refuse(store, lambda: store.add_rows("t", [5]), InvalidRow, value=5)
        store.redo()
        store.add_rows("t", [(3,)])
        self.refuse(store, store.redo, NothingToRedo)
        store.undo()
        self.assertEqual(list(store.rows_of("t")), [(1,)])

    def test_looked_stays(self):
        store = store_of(*EXAMPLE)
        store.delete_rows("t", "a = 1")
        self.assertEqual(store.looked, ("lo",))
        store.undo()
        self.assertEqual((store.looked, store.count_rows("t")), (("lo",), 5))
        store.ask("hx")
        store.redo()
        self.assertEqual((store.looked, store.count_rows("t")), (("hx",), 4))


class WorkTest(StoreTest):
    def test_result_and_steps(self):
        store = store_of("create t a:number", "insert t 1")
        seen = []

        def action(same):
            self.assertIs(same, store)
            seen.append(same.steps)
            self.assertIs(type(raised(same.undo)), NothingToUndo)
            self.assertIs(type(raised(same.redo)), NothingToRedo)
            same.add_rows("t", [(2,)])
            same.add_rows("t", [(3,)])
            seen.append(same.steps)
            same.undo()
            seen.append(same.steps)
            return ["result"]

        self.assertEqual(store.in_work(action), ["result"])
        self.assertEqual(seen, [0, 2, 1])
        self.assertEqual((store.steps, list(store.rows_of("t"))), (3, [(1,), (2,)]))
        self.refuse(store, store.redo, NothingToRedo)
        store.undo()
        self.assertEqual((store.steps, list(store.rows_of("t"))), (2, [(1,)]))
        store.redo()
        self.assertEqual((store.steps, list(store.rows_of("t"))), (3, [(1,), (2,)]))
        self.assertIsNone(store.in_work(action=lambda same: None))

    def test_a_work_without_steps(self):
        store = store_of("create t a:number", "insert t 1", "insert t 2", "undo")

        def action(same):
            same.add_rows("t", [(7,)])
            same.undo()
            same.ask("t")

        for work in (action, lambda same: None, lambda same: same.in_work(action)):
            store.in_work(work)
            self.assertEqual(store.steps, 2)
        self.assertEqual(store.looked, ("t",))
        store.redo()
        self.assertEqual(list(store.rows_of("t")), [(1,), (2,)])
        store.undo()
        store.undo()
        self.assertEqual((store.steps, store.count_rows("t")), (1, 0))

    def test_a_work_that_is_taken_back_in_part_makes_redoing_impossible(self):
        store = store_of("create t a:number", "insert t 1", "undo")
        store.in_work(lambda same: (same.add_rows("t", [(5,)]), same.add_rows("t", [(6,)]), same.undo()))
        self.refuse(store, store.redo, NothingToRedo)
        self.assertEqual((store.steps, list(store.rows_of("t"))), (2, [(5,)]))

    def test_exceptions(self):
        class Stop(BaseException):
            pass

        for error in (ValueError("x"), Stop(), KeyError(5), KeyboardInterrupt()):
            store = store_of("create t a:number", "insert t 1", "insert t 2", "undo")
            before = store.copied()

            def action(same):
                same.add_rows("t", [(7,)])
                same.undo()
                same.drop("t")
                same.ask("t") if "t" in same.names else None
                raise error

            try:
                store.in_work(action)
            except BaseException as found:
                self.assertIs(found, error)
            else:
                self.fail()
            self.assertTrue(store == before)
            self.assertEqual(store.steps, 2)
            store.redo()
            self.assertEqual(list(store.rows_of("t")), [(1,), (2,)])
            store.undo()
            store.undo()
            self.assertEqual((store.steps, store.count_rows("t")), (1, 0))

    def test_an_own_error_goes_on(self):
        store = store_of("create t a:number")
        self.refuse(store, lambda: store.in_work(lambda same: (same.create("u", SCHEMA), same.drop("x"))), UnknownTable, value="x")
        self.refuse(store, lambda: store.in_work(lambda same: same.undo()), NothingToUndo)
        self.refuse(store, lambda: store.in_work(lambda same: same.create(5, SCHEMA)), InvalidName, value=5)

    def test_looked_and_counts_stay(self):
        store = CountingStore()
        store.create("t", SCHEMA)

        def action(same):
            same.create("u", SCHEMA)
            same.delete_rows("t")
            raise ValueError

        self.assertIs(type(raised(lambda: store.in_work(action))), ValueError)
        self.assertEqual((store.looked, store.names, store.steps), (("t",), ("t",), 1))
        self.assertEqual(store.counts, {"create": 2, "delete_rows": 1})

    def test_nested_works(self):
        store = store_of("create t a:number")

        def inner(same):
            self.assertEqual(same.steps, 0)
            same.add_rows("t", [(2,)])
            same.add_rows("t", [(3,)])

        def failing(same):
            same.drop("t")
            raise ValueError

        def outer(same):
            same.add_rows("t", [(1,)])
            same.in_work(inner)
            self.assertEqual(same.steps, 2)
            self.assertIs(type(raised(lambda: same.in_work(failing))), ValueError)
            self.assertEqual((same.steps, same.count_rows("t")), (2, 3))
            same.undo()
            self.assertEqual((same.steps, same.count_rows("t")), (1, 1))
            same.in_work(lambda store: None)
            same.redo()
            self.assertEqual((same.steps, same.count_rows("t")), (2, 3))
            return same.in_work(lambda store: store.steps)

        self.assertEqual(store.in_work(outer), 0)
        self.assertEqual((store.steps, store.count_rows("t")), (2, 3))
        store.undo()
        self.assertEqual((store.steps, store.count_rows("t")), (1, 0))


class EqualTest(StoreTest):
    def test_what_counts(self):
        base = ["create t a:number w:word by range a", "part p of t range 0 to 10", "part d of t default", "create u a:number w:word",
                "check t c a < 90", "key t a w", "key u a", "insert t 1 'x / 50 null / null 'y"]
        store = store_of(*base)
        for more in [
            "drop u", "create v a:number", "check t d a < 99", "uncheck t c", "check p c a < 90", "unkey u a", "key u w", "insert t 2 'x",
            "insert t null 'y", "delete t where a = 1", "update t set w 'z where a = 50", "rebound p range 0 to 11", "detach p",
            "split p into q range 0 to 10", "split d into d default / e range 10 to 20", "part e of t range 10 to 20",
        ]:
            other = store_of(*base, more)
            check_equal(self, store, other, False)
            other.undo()
            check_equal(self, store, other, True)
        for one, two in [
            ("create v a:number", "create v a:number!"), ("create v a:number", "create v a:word"), ("create v a:number", "create v b:number"),
            ("create v a:number b:number by range a", "create v a:number b:number by range b"),
            ("create v a:number by range a", "create v a:number by rest a"), ("create v a:number by range a", "create v a:number"),
            ("create v a:number b:number by range a b", "create v a:number b:number by range b a"),
            ("check u c a > 0", "check u c a >= 1"), ("check u c a > 0", "check u d a > 0"), ("key u a w", "key u w a"),
            ("create v a:number b:number", "create v b:number a:number"),
        ]:
            check_equal(self, store_of(*base, one), store_of(*base, two), False)
            check_equal(self, store_of(*base, one), store_of(*base, one), True)

    def test_parents_count(self):
        base = ["create t a:number by range a", "create u a:number by range a"]
        check_equal(self, store_of(*base, "part p of t default"), store_of(*base, "part p of u default"), False)
        check_equal(self, store_of(*base, "part p of t default"), store_of(*base, "create p a:number"), False)

    def test_what_does_not_count(self):
        one = store_of("create t a:number w:word", "create u b:number", "check t c a > 0", "check t d a > 1", "insert t 5 'x / 6 'y / 5 'x")
        other = store_of("create u b:number", "create t a:number w:word", "check t d a > 1", "check t c a > 0", "insert t 6 'y", "insert t 5 'x / 5 'x",
                         "ask t", "insert t 7 'z", "undo")
        check_equal(self, one, other, True)
        check_equal(self, one, store_of("create t a:number w:word", "create u b:number", "check t c a > 0", "check t d a > 1",
                                        "insert t 5 'x / 6 'y / 6 'y"), False)

    def test_keys_count_in_their_order(self):
        one = store_of("create t a:number w:word", "key t a", "key t w")
        other = store_of("create t a:number w:word", "key t w", "key t a")
        check_equal(self, one, other, False)
        one.drop_key("t", "a")
        one.add_key("t", "a")
        check_equal(self, one, other, True)

    def test_classes_and_other_values(self):
        stores = [Store(), GuardedStore(3), CountingStore(), GuardedCountingStore(5), GuardedStore(7)]
        for one, other in itertools.product(stores, repeat=2):
            check_equal(self, one, other, True)
        stores[1].create("t", SCHEMA)
        check_equal(self, stores[0], stores[1], False)
        for value in ANY_VALUES:
            check_equal(self, stores[0], value, False)
        self.assertIs(stores[0] == EqualToAll(), False)

    def test_copies(self):
        for store in [Store(), GuardedStore(3), CountingStore(), GuardedCountingStore(5)]:
            store.create("t", SCHEMA)
            store.add_rows("t", [(1, "x")])
            store.ask("t")
            store.undo()
            copy = store.copied()
            check_equal(self, store, copy, True)
            self.assertIs(type(copy), type(store))
            self.assertEqual((copy.steps, copy.looked), (0, ()))
            self.refuse(copy, copy.undo, NothingToUndo)
            self.refuse(copy, copy.redo, NothingToRedo)
            if isinstance(store, CountingStore):
                self.assertEqual((copy.counts, store.counts), ({}, {"add_rows": 1, "create": 1}))
            copy.add_rows("t", [(5, "y")])
            check_equal(self, store, copy, False)
            store.redo()
            self.assertEqual((list(store.rows_of("t")), list(copy.rows_of("t"))), ([(1, "x")], [(5, "y")]))
            if isinstance(store, GuardedStore):
                self.refuse(copy, lambda: copy.add_rows("t", [(6, "y")] * 9), LeafFull, table="t")


class GuardedTest(StoreTest):
    def test_limits(self):
        for value in ANY_VALUES + [-5, 10 ** 59]:
            is_right = type(value) is int and value >= 1
            for cls in (GuardedStore, GuardedCountingStore):
                error = raised(lambda: cls(value))
                if is_right:
                    self.assertIsNone(error)
                    self.assertEqual(cls(limit=value).names, ())
                else:
                    self.assertIs(type(error), InvalidLimit)
                    self.assertEqual(vars(error), {"value": value})

    def full(self, cls):
        store = cls(2)
        store.create("t", SCHEMA, Cut("range", "a"))
        for name, low in [("r", 0), ("q", 10), ("p", 20)]:
            store.create_part(name, "t", Range((low,), (low + 10,)))
        store.add_rows("t", [(0, "x"), (1, "x"), (10, "x"), (20, "x")])
        return store

    def test_leaves_that_are_full(self):
        for cls in (GuardedStore, GuardedCountingStore):
            store = self.full(cls)
            add = [(2, "x"), (11, "x"), (12, "x")]
            self.refuse(store, lambda: store.add_rows("t", add), LeafFull, table="q")
            self.refuse(store, lambda: store.add_rows("t", add[:2]), LeafFull, table="r")
            self.refuse(store, lambda: store.add_rows("t", add + [5]), InvalidRow, value=5)
            self.assertEqual(store.add_rows("t", add[1:2]), 1)
            self.refuse(store, lambda: store.change_rows("t", "a > 0 and a < 20", a=("add", 10)), LeafFull, table="p")
            self.refuse(store, lambda: store.change_rows("t", a=5), LeafFull, table="r")
            self.assertEqual(store.change_rows("t", "a < 20", w="y"), 4)
            self.assertEqual(store.change_rows("t", "a > 10", a=("add", 9), w=None), 2)
            self.refuse(store, lambda: store.merge_parts(["r", "q"], "s", Range((0,), (20,))), LeafFull, table="s")
            self.assertEqual(store.delete_rows("q"), 1)
            self.assertEqual(store.merge_parts(["r", "q"], "s", Range((0,), (20,))), 2)

    def test_errors_that_come_before(self):
        store = self.full(GuardedStore)
        store.add_key("t", "a")
        self.refuse(store, lambda: store.add_rows("t", [(2, "x"), (3, "y"), (2, "y")]), DuplicateKey, row=(2, "y"))
        self.refuse(store, lambda: store.change_rows("t", a=5), DuplicateKey, row=(5, "x"))
        self.refuse(store, lambda: store.add_rows("t", [(2, "x"), (3, "y")]), LeafFull, table="r")

    def test_undo_and_redo(self):
        store = self.full(GuardedStore)
        store.delete_rows("r")
        store.add_rows("r", [(5, "z"), (6, "z")])
        store.undo()
        store.undo()
        self.assertEqual(store.count_rows("r"), 2)
        store.redo()
        store.redo()
        self.assertEqual(list(store.rows_of("r")), [(5, "z"), (6, "z")])

    def test_a_plain_store_is_not_guarded(self):
        store = CountingStore()
        store.create("t", SCHEMA)
        self.assertEqual(store.add_rows("t", [(1, "x")] * 50), 50)


class CountingTest(StoreTest):
    def test_each_method(self):
        for store in (CountingStore(), GuardedCountingStore(2)):
            self.assertEqual(store.counts, {})
            names = []
            for name, call in all_steps(store):
                call()
                names.append(name)
                self.assertEqual(list(store.counts.items()), [(name, 1) for name in sorted(names)])
            before = store.counts
            store.undo()
            store.undo()
            store.redo()
            self.assertEqual(store.counts, before)
            self.refuse(store, lambda: store.create(5, SCHEMA), InvalidName, value=5)
            store.in_work(lambda same: same.ask("t") if "t" in same.names else None)
            self.assertEqual(store.counts, before)
            store.in_work(lambda same: (same.create("u", SCHEMA), same.create("v", SCHEMA), same.undo()))
            self.assertEqual(store.counts["create"], 3)
            store.counts.clear()
            self.assertEqual(store.counts["create"], 3)

    def test_errors_are_not_counted(self):
        store = CountingStore()
        self.refuse(store, lambda: store.create(5, SCHEMA), InvalidName, value=5)
        self.assertEqual(store.counts, {})
        self.assertFalse(hasattr(Store(), "counts"))


class SearchTest(unittest.TestCase):
    """Histories with undo, redo and works at each moment, beside the model."""

    def test_random_histories(self):
        chooser = random.Random(95)
        for count in range(10):
            pair = Pair(self, [None, 2, 4][count % 3], count % 2 == 0)
            history = History(pair, chooser)
            history.begin()
            for _ in range(50):
                chooser.choice([history.step, history.step, history.undo, history.redo, history.work])()
                pair.compare()
            pair.compare_copies()


if __name__ == "__main__":
    unittest.main()
