"""Points 50 to 54: rows that are added, deleted, changed and moved."""

import random
import unittest

from partwise.errors import (
    CheckFails, DuplicateKey, InvalidChange, InvalidParameters, InvalidRow, InvalidText, NoPart, UnknownColumn,
    UnknownTable,
)
from tests.histories import grown
from tests.samples import ANY_VALUES, Kept
from tests.stores import TOP, StoreTest, store_of

TREE = [
    "create t a:number b:number! w:word by range a", "part lo of t range 0 to 10 by values w", "part lx of lo values null 'x",
    "part ld of lo default", "part hi of t range 10 to 20", "part re of t default",
]


class AddTest(StoreTest):
    def test_rows_go_into_their_leaves(self):
        store = store_of(*TREE)
        rows = [(5, 1, "x"), (15, 2, None), (None, 3, "q"), (5, 4, "y"), (5, 1, "x"), (20, 0, None), (0, 0, None)]
        kept = Kept(rows)
        self.assertEqual(store.add_rows("t", rows), 7)
        self.assertTrue(kept.is_kept())
        self.assertEqual({leaf: list(store.rows_of(leaf)) for leaf in store.leaves_of("t")}, {
            "lx": [(0, 0, None), (5, 1, "x"), (5, 1, "x")], "ld": [(5, 4, "y")], "hi": [(15, 2, None)],
            "re": [(None, 3, "q"), (20, 0, None)],
        })
        self.assertEqual(list(store.rows_of("t")), sorted(rows, key=lambda row: (row[0] is not None, row[0] or 0, row[1])))
        rows.clear()
        self.assertEqual(store.count_rows("t"), 7)
        self.assertEqual(store.add_rows("lo", ((1, 1, "z"),)), 1)
        self.assertEqual(store.add_rows(name="hi", rows=[]), 0)
        self.assertEqual(store.looked, ())

    def test_order_of_rows(self):
        store = store_of("create t a:number w:word")
        store.add_rows("t", [(2, "b"), (None, "z"), (2, None), (-5, "aa"), (None, None), (2, "aa"), (10, "a"), (2, "b")])
        self.assertEqual(list(store.rows_of("t")), [
            (None, None), (None, "z"), (-5, "aa"), (2, None), (2, "aa"), (2, "b"), (2, "b"), (10, "a"),
        ])

    def test_each_error_and_the_next_one(self):
        store = store_of(*TREE, "check t one a <> 7", "check lo two b > 0", "check ld three w < 'y", "check t four b <> 9",
                         "key t a w b", "insert t 1 1 'x")
        for name, rows, error, fields in [
            ("x", [5], UnknownTable, {"value": "x"}),
            ("lo", [(7, 0, "y"), (50, 0)], CheckFails, {"label": "one", "row": (7, 0, "y")}),
            ("lo", [(50, 0), (7, 0, "y")], InvalidRow, {"value": (50, 0)}),
            ("lo", [(50, 9, "x")], NoPart, {"row": (50, 9, "x")}),
            ("ld", [(5, 9, "x")], NoPart, {"row": (5, 9, "x")}),
            ("t", [(7, 9, "y")], CheckFails, {"label": "four", "row": (7, 9, "y")}),
            ("t", [(7, 0, "y")], CheckFails, {"label": "one", "row": (7, 0, "y")}),
            ("t", [(6, 0, "y")], CheckFails, {"label": "two", "row": (6, 0, "y")}),
            ("t", [(6, 1, "y")], CheckFails, {"label": "three", "row": (6, 1, "y")}),
            ("t", [(2, 2, "x"), (1, 1, "x"), 5], DuplicateKey, {"row": (1, 1, "x")}),
            ("lx", [(2, 2, "x"), (2, 2, "x"), 5], DuplicateKey, {"row": (2, 2, "x")}),
            ("t", [(2, 2, "x"), 5, (1, 1, "x")], InvalidRow, {"value": 5}),
        ]:
            self.refuse(store, lambda: store.add_rows(name, rows), error, **fields)
        self.assertEqual(store.add_rows("t", [(None, 1, "x"), (None, 1, "x"), (1, 1, None), (1, 1, None)]), 4)

    def test_one_of_two_keys(self):
        store = store_of("create t a:number b:number", "key t a", "key t b", "insert t 1 1")
        self.refuse(store, lambda: store.add_rows("t", [(2, 1)]), DuplicateKey, row=(2, 1))
        self.refuse(store, lambda: store.add_rows("t", [(1, 2)]), DuplicateKey, row=(1, 2))
        self.refuse(store, lambda: store.add_rows("t", [(5, 6), (7, None), (None, 6)]), DuplicateKey, row=(None, 6))
        store.add_rows("t", [(5, None), (None, 6), (7, None), (None, None)])

    def test_any_values(self):
        store = store_of("create t a:number! w:word", "insert t 1 'x")
        for value in ANY_VALUES + [(None, "x"), (1, "x", 1), [1, "x"], (True, "x"), (TOP + 1, "x"), ("x", 1)]:
            self.refuse(store, lambda: store.add_rows("t", [(1, "x"), value]), InvalidRow, value=value)
            if value != "t":
                self.refuse(store, lambda: store.add_rows(value, [5]), UnknownTable, value=value)

    def test_an_unknown_check_is_no_fault(self):
        store = store_of("create t a:number b:number", "check t c a < b")
        self.assertEqual(store.add_rows("t", [(None, 1), (5, None), (1, 2)]), 3)
        self.refuse(store, lambda: store.add_rows("t", [(2, 1)]), CheckFails, label="c", row=(2, 1))


class DeleteTest(StoreTest):
    def test_delete(self):
        store = store_of(*TREE, "insert t 5 1 'x / 5 1 'x / 15 2 null / null 3 'q / 5 4 'y / 7 5 null")
        self.assertEqual(store.delete_rows("t", "a = 5 and w = $1", ["x"]), 2)
        self.assertEqual(store.looked, ("lx",))
        self.assertEqual(store.delete_rows("hi", "a < 0"), 0)
        self.assertEqual(store.looked, ())
        self.assertEqual(store.delete_rows("t", "not a > 6"), 1)
        self.assertEqual(store.looked, ("ld", "lx", "re"))
        self.assertEqual(store.delete_rows("lo"), 1)
        self.assertEqual(store.looked, ("ld", "lx"))
        self.assertEqual(store.delete_rows(name="t", where="b = $2 or b = $1", parameters=(None, 3)), 1)
        self.assertEqual(list(store.rows_of("t")), [(15, 2, None)])
        self.assertEqual(store.delete_rows("t", "b = $1", (None,)), 0)
        self.assertEqual(store.looked, ())

    def test_looked(self):
        store = store_of(*TREE, "check hi c w is not null and w < 'c")
        for where, parameters, leaves in [
            ("", (), ("hi", "ld", "lx", "re")),
            ("a = 5", (), ("ld", "lx")),
            ("a < 5 and a > 4", (), ()),
            ("a = $1", (12,), ("hi",)),
            ("a = $1", (None,), ()),
            ("a is null", (), ("re",)),
            ("w is null", (), ("lx", "re")),
            ("w >= 'c and w <> 'x", (), ("ld", "re")),
            ("w = 'x and a >= $1", (9,), ("lx", "re")),
            ("w = 'x and a >= $1", (10,), ("re",)),
            ("a <= b and b <= $1", (0,), ("ld", "lx", "re")),
            ("a <= b and b <= $1", (-1,), ("re",)),
            ("not ( a < 0 or a > $1 )", (15,), ("hi", "ld", "lx")),
        ]:
            store.delete_rows("t", where, parameters)
            self.assertEqual(store.looked, leaves, (where, parameters))

    def test_each_error_and_the_next_one(self):
        store = store_of(*TREE, "insert t 5 1 'x")
        store.delete_rows("t", "a = 4")
        for arguments, error, fields in [
            (("x", "a >", 5), UnknownTable, {"value": "x"}),
            (("t", "a >", 5), InvalidText, {"index": 2}),
            (("t", "a > $1", 5), InvalidParameters, {}),
            (("t", "a > $1"), InvalidParameters, {}),
            (("t", "a > $1", None), InvalidParameters, {}),
            (("t", "a > $1", ["x"]), InvalidParameters, {}),
            (("t", "a > $1", [1, 2]), InvalidParameters, {}),
            (("t", "a > $1 or w = $2", ["x", 1]), InvalidParameters, {}),
            (("t", "", [None]), InvalidParameters, {}),
            (("t", "a > $2", [1]), InvalidText, {"index": 3}),
        ]:
            self.refuse(store, lambda: store.delete_rows(*arguments), error, **fields)
        for value in ANY_VALUES:
            if value not in ([], (), ""):
                self.refuse(store, lambda: store.delete_rows("t", "", value), InvalidParameters)
                fault = {" ": 0, "a": 1, "a b": 1, "a\n": 0}.get(value, 0) if isinstance(value, str) else 0
                self.refuse(store, lambda: store.delete_rows("t", value), InvalidText, index=fault)
                if value not in (None, 0, 1, -1, 10 ** 30, -10 ** 30) or isinstance(value, bool):
                    self.refuse(store, lambda: store.delete_rows("t", "a = $1", [value]), InvalidParameters)

    def test_an_error_does_not_change_looked(self):
        store = store_of(*TREE)
        store.delete_rows("t", "a = 5")
        self.refuse(store, lambda: store.delete_rows("t", "a = $1"), InvalidParameters)
        self.assertEqual(store.looked, ("ld", "lx"))


class ChangeTest(StoreTest):
    def test_rows_move_between_leaves(self):
        store = store_of(*TREE, "insert t 5 1 'x / 5 1 'x / 15 2 null / null 3 'q / 5 4 'y")
        self.assertEqual(store.change_rows("t", "b < 3", [], a=("add", 5), w="y"), 3)
        self.assertEqual(store.looked, ("hi", "ld", "lx", "re"))
        self.assertEqual({leaf: list(store.rows_of(leaf)) for leaf in store.leaves_of("t")}, {
            "lx": [], "ld": [(5, 4, "y")], "hi": [(10, 1, "y"), (10, 1, "y")], "re": [(None, 3, "q"), (20, 2, "y")],
        })
        self.assertEqual(store.change_rows("t", "w >= $1", ("q",), a=None), 5)
        self.assertEqual(store.looked, ("hi", "ld", "lx", "re"))
        self.assertEqual(store.rows_of("re").__next__(), (None, 1, "y"))
        self.assertEqual(store.change_rows(name="re", where="b = 4", b=-TOP), 1)
        self.assertEqual(store.change_rows("t"), 5)
        self.assertEqual(store.change_rows("lo", a=("add", 50)), 0)
        self.assertEqual(store.looked, ("ld", "lx"))

    def test_rows_are_found_first(self):
        store = store_of("create t a:number by range a", "part p of t range 0 to 5", "part q of t range 5 to +", "insert t 1 / 4 / 6")
        self.assertEqual(store.change_rows("t", "a > 0", a=("add", 4)), 3)
        self.assertEqual(list(store.rows_of("t")), [(5,), (8,), (10,)])

    def test_none_stays_none(self):
        store = store_of("create t a:number b:number", "insert t null 1 / 2 1")
        self.assertEqual(store.change_rows("t", a=("add", 3), b=None), 2)
        self.assertEqual(list(store.rows_of("t")), [(None, None), (5, None)])

    def test_changes_together(self):
        # Each row takes the key of the next one.
        store = store_of("create t a:number! b:number", "key t a", "insert t 1 1 / 2 1 / 3 1 / 9 2")
        self.assertEqual(store.change_rows("t", "b = 1", a=("add", 1)), 3)
        self.assertEqual([row[0] for row in store.rows_of("t")], [2, 3, 4, 9])
        self.refuse(store, lambda: store.change_rows("t", "b = 1", a=("add", 5)), DuplicateKey, row=(9, 1))
        self.refuse(store, lambda: store.change_rows("t", "b = 1", a=9), DuplicateKey, row=(9, 1))
        store.add_key("t", "b", "a")
        self.refuse(store, lambda: store.change_rows("t", "b = 2", a=4, b=1), DuplicateKey, row=(4, 1))
        self.assertEqual(store.change_rows("t", a=("add", 0)), 4)

    def test_the_least_new_row_with_a_key_twice(self):
        store = store_of("create t a:number b:number", "key t b", "insert t 9 1 / 7 2 / 8 3 / 1 4")
        self.refuse(store, lambda: store.change_rows("t", "a > 1", b=4), DuplicateKey, row=(7, 4))
        self.refuse(store, lambda: store.change_rows("t", "a > 7", b=("add", -1)), DuplicateKey, row=(8, 2))

    def test_each_error_and_the_next_one(self):
        store = store_of(*TREE, "check t one b <> 7", "check hi two w is null", "key t a b w",
                         f"insert t 5 1 'x / 5 2 'x / 6 3 'x / 15 {TOP} null / null 8 'q")
        for arguments, changes, error, fields in [
            (("x", "a >", 5), {"x": 5}, UnknownTable, {"value": "x"}),
            (("t", "a >", 5), {"x": 5}, InvalidText, {"index": 2}),
            (("t", "a > 5", 5), {"x": 5}, InvalidParameters, {}),
            (("t", "a > 5"), {"x": 5, "w": 5}, UnknownColumn, {"value": "x"}),
            (("t", "a > 5"), {"w": 5, "x": 5}, InvalidChange, {"column": "w"}),
            (("t",), {"b": ("add", 1), "w": 5}, InvalidChange, {"column": "w"}),
            (("t",), {"b": ("add", 1), "w": ("add", 1)}, InvalidChange, {"column": "w"}),
            (("t", "w = 'none"), {"b": None}, InvalidChange, {"column": "b"}),
            (("t", "a > 14"), {"b": ("add", 1)}, InvalidRow, {"value": (15, TOP + 1, None)}),
            (("t", "a > 4"), {"b": ("add", TOP)}, InvalidRow, {"value": (5, TOP + 1, "x")}),
            (("t", "a > 4"), {"b": ("add", 1), "a": ("add", 10)}, CheckFails, {"label": "two", "row": (15, 2, "x")}),
            (("lo", "a > 4"), {"a": ("add", 10)}, NoPart, {"row": (15, 1, "x")}),
            (("lo",), {"b": ("add", 5), "a": ("add", 5)}, NoPart, {"row": (10, 6, "x")}),
            (("lo", "b = 2"), {"b": ("add", 5), "w": "y"}, CheckFails, {"label": "one", "row": (5, 7, "y")}),
            (("ld",), {"w": "x"}, None, 0),
            (("lx", "a = 5"), {"b": 7, "a": None}, NoPart, {"row": (None, 7, "x")}),
            (("lx", "a < 7"), {"a": ("add", 1), "b": 0}, DuplicateKey, {"row": (6, 0, "x")}),
            (("t", "b = 1"), {"b": 2}, DuplicateKey, {"row": (5, 2, "x")}),
        ]:
            if error is None:
                self.assertEqual(store.change_rows(*arguments, **changes), fields)
            else:
                self.refuse(store, lambda: store.change_rows(*arguments, **changes), error, **fields)

    def test_faults_are_found_row_by_row(self):
        store = store_of("create t a:number! b:number! by range b", "part p of t range 0 to +", "check t c a < 5",
                         f"insert t 1 {TOP} / 2 3 / 3 {TOP - 1}")
        self.refuse(store, lambda: store.change_rows("t", a=("add", 3), b=("add", 1)), InvalidRow, value=(4, TOP + 1))
        self.refuse(store, lambda: store.change_rows("t", "a > 1", a=("add", 3), b=("add", -4)), NoPart, row=(5, -1))
        self.refuse(store, lambda: store.change_rows("t", "a > 1", a=("add", 3), b=("add", 1)), CheckFails, label="c", row=(5, 4))
        self.refuse(store, lambda: store.change_rows("t", "a > 1", a=("add", 3)), CheckFails, label="c", row=(5, 3))
        self.refuse(store, lambda: store.change_rows("t", b=("add", 2)), InvalidRow, value=(1, TOP + 2))

    def test_values_of_changes(self):
        store = store_of("create t a:number b:number! w:word v:word! by range a", "part p of t default")
        for value in ANY_VALUES + [("add",), ("add", 1, 2), ["add", 1], ("add", True), ("add", None), ("add", TOP + 1),
                                   ("sub", 1), ("add", "1"), ("add", ("add", 1)), ("lowercase",), "lowercase"]:
            is_number = isinstance(value, int) and not isinstance(value, bool) and abs(value) <= TOP
            is_word = isinstance(value, str) and value.isalpha() and value.islower() and len(value) <= 8
            for column, is_right in [
                ("a", is_number or value is None), ("b", is_number), ("w", is_word or value is None), ("v", is_word),
            ]:
                if not is_right:
                    self.refuse(store, lambda: store.change_rows("t", **{column: value}), InvalidChange, column=column)
                    self.refuse(store, lambda: store.moves("t", **{column: value}), InvalidChange, column=column)
                else:
                    self.assertEqual(store.change_rows("t", **{column: value}), 0)
        for change in [("add", TOP), ("add", -TOP), ("add", 0)]:
            self.assertEqual(store.change_rows("t", a=change, b=change), 0)
            self.refuse(store, lambda: store.change_rows("t", w=change), InvalidChange, column="w")

    def test_looked_is_that_of_the_old_rows(self):
        store = store_of(*TREE, "insert hi 15 1 null")
        store.change_rows("t", "a = 15", a=5)
        self.assertEqual(store.looked, ("hi",))
        self.refuse(store, lambda: store.change_rows("t", a=50, b=None), InvalidChange, column="b")
        self.assertEqual(store.looked, ("hi",))


class MovesTest(StoreTest):
    def test_known_moves(self):
        store = store_of(*TREE)
        for named, due in [
            ({}, [("hi", "hi"), ("ld", "ld"), ("lx", "lx"), ("re", "re")]),
            ({"a": 5}, [
                ("hi", "ld"), ("hi", "lx"), ("ld", "ld"), ("lx", "lx"), ("re", "ld"), ("re", "lx")]),
            ({"a": ("add", 10)}, [("hi", "re"), ("ld", "hi"), ("lx", "hi"), ("re", "ld"), ("re", "lx"), ("re", "re")]),
            ({"a": ("add", 1)}, [("hi", "hi"), ("hi", "re"), ("ld", "hi"), ("ld", "ld"), ("lx", "hi"), ("lx", "lx"), ("re", "ld"),
                                 ("re", "lx"), ("re", "re")]),
            ({"w": None}, [("hi", "hi"), ("ld", "lx"), ("lx", "lx"), ("re", "re")]),
            ({"where": "a >= 0", "a": ("add", 1)}, [("hi", "hi"), ("hi", "re"), ("ld", "hi"), ("ld", "ld"), ("lx", "hi"), ("lx", "lx"),
                                                    ("re", "re")]),
            ({"where": "a >= 0", "a": ("add", TOP)}, [("ld", "re"), ("lx", "re")]),
            ({"where": "a = $1", "parameters": [9], "a": ("add", 1)}, [("ld", "hi"), ("lx", "hi")]),
            ({"where": "a = $1 and a is not null", "parameters": None, "a": ("add", 20)}, [
                ("hi", "re"), ("ld", "re"), ("lx", "re"), ("re", "hi"), ("re", "ld"), ("re", "lx"), ("re", "re")]),
            ({"where": "a = $1", "parameters": [None]}, []),
            ({"where": "a rest 2 0 and b < a", "b": ("add", 3)}, [("hi", "hi"), ("ld", "ld"), ("lx", "lx"), ("re", "re")]),
        ]:
            found = store.moves("t", **named)
            self.assertIs(type(found), tuple)
            self.assertEqual(found, tuple(due), named)
        self.assertEqual(store.looked, ())

    def test_checks_and_sums(self):
        store = store_of("create t a:number! b:number by range a", "part p of t range - to 0", "part q of t range 0 to +",
                         "check q c b > a + 5", "check p d b = a - 3")
        self.assertEqual(store.moves("t", a=("add", 1)), (("p", "p"), ("p", "q"), ("q", "q")))
        self.assertEqual(store.moves("p", a=("add", 1)), (("p", "p"),))
        self.assertEqual(store.moves("t", "b is not null", a=("add", 1)), (("q", "q"),))
        self.assertEqual(store.moves("t", "b is not null", b=("add", -20)), (("q", "q"),))
        self.assertEqual(store.moves("t", "b is not null and a > -8", a=("add", 8)), (("q", "q"),))
        self.assertEqual(store.moves("t", "b is not null and a > -8", a=("add", 8), b=("add", 20)), (("p", "q"), ("q", "q")))
        # A sum beyond all numbers is no value of a row.
        self.assertEqual(store.moves("t", a=("add", TOP)), (("p", "q"), ("q", "q")))
        self.assertEqual(store.moves("t", "a > 0", a=("add", TOP)), ())
        self.assertEqual(store.moves("t", "a < 0", a=("add", -TOP)), ())

    def test_errors(self):
        store = store_of(*TREE)
        for arguments, changes, error, fields in [
            (("x", "a >", 5), {"x": 5}, UnknownTable, {"value": "x"}),
            (("t", "a >", 5), {"x": 5}, InvalidText, {"index": 2}),
            (("t", "a > $1", 5), {"x": 5}, InvalidParameters, {}),
            (("t", "a > $1", []), {"x": 5}, InvalidParameters, {}),
            (("t", "a > $1"), {"x": 5}, UnknownColumn, {"value": "x"}),
            (("t",), {"a": ("add", 5), "b": None}, InvalidChange, {"column": "b"}),
        ]:
            self.refuse(store, lambda: store.moves(*arguments, **changes), error, **fields)

    def test_all_small_rows(self):
        chooser = random.Random(54)
        found = []
        for _ in range(12):
            pair, history = grown(self, chooser, "create_part", "add_check")
            for _ in range(25):
                name = history.top()
                schema = history.schema(name)
                where, parameters = history.where(schema, True)
                found.append(pair.call("moves", name, where, parameters, **history.changes(schema)))
        sizes = [len(moves) for moves in found if moves is not None]
        self.assertGreater(len([size for size in sizes if size > 1]), 20)


class RowsTest(unittest.TestCase):
    """Histories of rows beside one list of all rows."""

    def test_random_rows(self):
        chooser = random.Random(50)
        for _ in range(6):
            pair, history = grown(self, chooser, "create_part")
            history.add_key()
            for _ in range(60):
                chooser.choice([history.add_rows, history.add_rows, history.delete, history.change, history.ask])()
                pair.compare()


if __name__ == "__main__":
    unittest.main()
