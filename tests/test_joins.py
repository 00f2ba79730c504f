"""Points 70 and 71: joins, and the pairs of leaves that can hold partners."""

import random
import unittest

from partwise.errors import InvalidJoin, InvalidParameters, InvalidText, UnknownColumn, UnknownTable
from tests.histories import grown
from tests.samples import ANY_VALUES, Kept
from tests.stores import StoreTest, store_of

STORE = [
    "create t a:number b:number w:word by range a", "part p of t range 0 to 10", "part q of t range 10 to 20", "part r of t default",
    "create u k:word n:number! by values k", "part x of u values 'x", "part y of u default",
    "insert t 1 10 'x / 1 null 'y / 12 5 null / null 5 'x / 50 7 'x",
    "insert u 'x 1 / 'x 5 / 'y 12 / null 5 / null 5",
]


class JoinTest(StoreTest):
    def test_kinds(self):
        store = store_of(*STORE)
        for on, named, due, looked in [
            ([("a", "n")], {}, [(1, None, "y", "x", 1), (1, 10, "x", "x", 1), (12, 5, None, "y", 12)], "pqrxy"),
            ([("a", "n")], {"kind": "some"}, [(1, None, "y"), (1, 10, "x"), (12, 5, None)], "pqrxy"),
            ([("a", "n")], {"kind": "none"}, [(None, 5, "x"), (50, 7, "x")], "pqrxy"),
            ([("a", "n")], {"kind": "left"}, [
                (None, 5, "x", None, None), (1, None, "y", "x", 1), (1, 10, "x", "x", 1), (12, 5, None, "y", 12),
                (50, 7, "x", None, None)], "pqrxy"),
            ([("b", "n")], {"kind": "inner", "where": "a > 2"}, [
                (12, 5, None, None, 5), (12, 5, None, None, 5), (12, 5, None, "x", 5)], "pqrxy"),
            ([("b", "n")], {"kind": "some", "where": "a > 2"}, [(12, 5, None)], "pqrxy"),
            ([("b", "n"), ("w", "k")], {}, [(None, 5, "x", "x", 5)], "pqrxy"),
            ([("b", "n"), ("w", "k"), ("b", "n")], {"kind": "none", "where": "a is null or a > $1", "parameters": [1]},
             [(12, 5, None), (50, 7, "x")], "pqrxy"),
            ([("w", "k")], {"where": "a < 10", "other_where": "n > $1", "other_parameters": [4]}, [(1, 10, "x", "x", 5), (
                1, None, "y", "y", 12)][::-1], "prxy"),
            ([("a", "n")], {"where": "a < $1", "parameters": [1], "kind": "left"}, [], "prxy"),
            ([("a", "n")], {"where": "a < $1", "parameters": (2,), "other_where": "k = $1", "other_parameters": ("z",)}, [], "pry"),
            ([("a", "n")], {"where": "a < $1", "parameters": (2,), "other_where": "k = $1", "other_parameters": ("z",),
                            "kind": "none"}, [(1, None, "y"), (1, 10, "x")], "pry"),
            ([("a", "n")], {"where": "a < 8 and a > 2", "other_where": "n > 10", "kind": "left"}, [], "p"),
            ([("a", "n")], {"where": "a < 8 and a > 2", "other_where": "n > 10"}, [], ""),
            ([("a", "n")], {"where": "a is null", "kind": "none"}, [(None, 5, "x")], "r"),
            ([("a", "n")], {"where": "a is null", "kind": "some"}, [], ""),
        ]:
            self.assertEqual(store.join_rows("t", "u", on, **named), due, (on, named))
            self.assertEqual(store.looked, tuple(looked), (on, named))
        self.assertEqual(store.join_rows(one="p", other="x", on=(("a", "n"),), kind="some"), [(1, None, "y"), (1, 10, "x")])
        self.assertEqual(store.looked, ("p", "x"))

    def test_rows_that_are_stored_twice(self):
        store = store_of("create t a:number", "create u b:number", "insert t 1 / 1 / 2 / 3 / 3", "insert u 1 / 1 / 1 / 2")
        self.assertEqual(store.join_rows("t", "u", [("a", "b")]), [(1, 1)] * 6 + [(2, 2)])
        self.assertEqual(store.join_rows("t", "u", [("a", "b")], kind="some"), [(1,), (1,), (2,)])
        self.assertEqual(store.join_rows("t", "u", [("a", "b")], kind="none"), [(3,), (3,)])
        self.assertEqual(store.join_rows("t", "u", [("a", "b")], kind="left")[-2:], [(3, None), (3, None)])

    def test_a_table_with_itself(self):
        store = store_of("create t a:number b:number! by range b", "part p of t range - to 5", "part q of t range 5 to +",
                         "insert t 1 2 / 2 7 / 7 1 / null 2 / 2 2")
        self.assertEqual(store.join_rows("t", "t", [("a", "b")]), [(1, 2, 7, 1), (2, 2, None, 2), (2, 2, 1, 2), (2, 2, 2, 2), (2, 7, None, 2),
                                                                  (2, 7, 1, 2), (2, 7, 2, 2), (7, 1, 2, 7)])
        self.assertEqual(store.join_rows("t", "t", [("a", "b")], where="b = $1", parameters=[7], other_where="b < $1", other_parameters=[7]), [
            (2, 7, None, 2), (2, 7, 1, 2), (2, 7, 2, 2)])
        self.assertEqual(store.looked, ("p", "q"))
        self.assertEqual(store.pairs("t", "t", [("b", "b")]), (("p", "p"), ("q", "q")))
        # A row is its own partner where the two columns agree.
        self.assertEqual(store.join_rows("q", "q", [("b", "b")]), [(2, 7, 2, 7)])

    def test_keys_do_not_count(self):
        store = store_of("create t a:number! b:number!", "key t a", "insert t 1 2 / 3 4")
        self.assertEqual(store.pairs("t", "t", [("a", "a")], where="b = 1", other_where="b = 2"), (("t", "t"),))

    def test_each_error_and_the_next_one(self):
        store = store_of(*STORE)
        store.ask("p")
        bad = {"where": "a >", "parameters": 5, "other_where": "n >", "other_parameters": 5}
        for arguments, named, error, fields in [
            (("x y", "z", []), {"kind": 5}, UnknownTable, {"value": "x y"}),
            (("t", "z", []), {"kind": 5}, UnknownTable, {"value": "z"}),
            (("t", "u", []), {"kind": "inner", **bad}, InvalidJoin, {}),
            (("t", "u", [("z", "z")]), {"kind": "outer", **bad}, InvalidJoin, {}),
            (("t", "u", [("a", "n"), ("z", "y"), ("w", "n")]), bad, UnknownColumn, {"value": "z"}),
            (("t", "u", [("a", "n"), ("a", "y"), ("w", "n")]), bad, UnknownColumn, {"value": "y"}),
            (("t", "u", [("a", "n"), ("w", "n"), ("z", "y")]), bad, InvalidJoin, {}),
            (("t", "u", [("a", "n")]), bad, InvalidText, {"index": 2}),
            (("t", "u", [("a", "n")]), {**bad, "where": "a > 5"}, InvalidParameters, {}),
            (("t", "u", [("a", "n")]), {**bad, "where": "a > $1", "parameters": ["x"]}, InvalidParameters, {}),
            (("t", "u", [("a", "n")]), {**bad, "where": "a > $1", "parameters": [5]}, InvalidText, {"index": 2}),
            (("t", "u", [("a", "n")]), {"other_where": "n > 5", "other_parameters": 5}, InvalidParameters, {}),
            (("t", "u", [("a", "n")]), {"other_where": "n > $1", "other_parameters": ["x"]}, InvalidParameters, {}),
        ]:
            self.refuse(store, lambda: store.join_rows(*arguments, **named), error, **fields)
            if "kind" not in named or named["kind"] != "outer":
                named = {key: named[key] for key in named if key != "kind"}
                self.refuse(store, lambda: store.pairs(*arguments, **named), error, **fields)
                self.refuse(store, lambda: store.is_partwise(*arguments, **named), error, **fields)
        self.assertEqual(store.looked, ("p",))
        self.refuse(store, lambda: store.join_rows("t", "u", [("a", "n")], where="a = $1", parameters=None), InvalidParameters)
        self.refuse(store, lambda: store.join_rows("t", "u", [("a", "n")], other_where="n = $1", other_parameters=None), InvalidParameters)

    def test_any_values(self):
        store = store_of(*STORE)
        on = [("a", "n")]
        for value in ANY_VALUES:
            self.refuse(store, lambda: store.join_rows(value, "u", on), UnknownTable, value=value)
            self.refuse(store, lambda: store.pairs("t", value, on), UnknownTable, value=value)
            self.refuse(store, lambda: store.join_rows("t", "u", on, kind=value), InvalidJoin)
            if value != "a":
                self.refuse(store, lambda: store.join_rows("t", "u", on + [(value, "n")]), UnknownColumn, value=value)
                self.refuse(store, lambda: store.is_partwise("t", "u", [("a", value)]), UnknownColumn, value=value)
            if value != "":
                fault = 1 if value in ("a", "a b") else 0
                self.refuse(store, lambda: store.join_rows("t", "u", on, where=value), InvalidText, index=fault)
                self.refuse(store, lambda: store.pairs("t", "u", on, other_where=value), InvalidText, index=0)
            if value not in ([], ()):
                self.refuse(store, lambda: store.join_rows("t", "u", on, parameters=value), InvalidParameters)
                self.refuse(store, lambda: store.join_rows("t", "u", on, other_parameters=value), InvalidParameters)
            if value not in ([], (), None):
                self.refuse(store, lambda: store.pairs("t", "u", on, parameters=value), InvalidParameters)
                self.refuse(store, lambda: store.pairs("t", "u", on, other_parameters=value), InvalidParameters)

    def test_arguments_are_not_changed(self):
        store = store_of(*STORE)
        on, parameters, others = [("a", "n"), ("w", "k")], [5], ["x"]
        kept = Kept(on, parameters, others)
        named = {"where": "a = $1", "other_where": "k = $1", "parameters": parameters, "other_parameters": others}
        store.join_rows("t", "u", on, kind="left", **named)
        store.pairs("t", "u", on, **named)
        store.is_partwise("t", "u", on, **named)
        self.assertTrue(kept.is_kept())


class PairsTest(StoreTest):
    def test_known_pairs(self):
        store = store_of("create t a:number b:number by range a", "part p of t range 0 to 10", "part q of t range 10 to 20",
                         "part r of t default", "create u a:number! b:number by range a", "part x of u range 0 to 10",
                         "part y of u range 10 to 25 by values b", "part ya of y values 1", "part yb of y default")
        every = [one + other for one in "pqr" for other in ("x", "ya", "yb")]
        for on, named, due in [
            ([("a", "a")], {}, "px qya qyb rya ryb"),
            ([("b", "a")], {}, " ".join(every)),
            ([("a", "b")], {}, "px pya pyb qx qyb rx ryb"),
            ([("a", "a"), ("b", "b")], {}, "px qya qyb rya ryb"),
            ([("a", "a"), ("b", "b")], {"where": "b = 1"}, "px qya rya"),
            ([("a", "a"), ("b", "b")], {"where": "b = $1"}, "px qya qyb rya ryb"),
            ([("a", "a"), ("b", "b")], {"where": "b = $1", "parameters": [1]}, "px qya rya"),
            ([("a", "a"), ("b", "b")], {"where": "b = $1", "parameters": [None]}, ""),
            ([("a", "a")], {"where": "b is null and a < 12", "other_where": "b is not null"}, "px qya qyb"),
            ([("a", "a")], {"where": "a > $1", "other_where": "a < $1", "parameters": [11], "other_parameters": [13]}, "qya qyb"),
            # The parameters of the two are different ones.
            ([("a", "a")], {"where": "a > $1", "other_where": "a < $1"}, "px qya qyb rya ryb"),
            ([("a", "a")], {"where": "a is null"}, ""),
            ([("a", "a"), ("b", "a")], {"where": "a < b"}, ""),
            ([("a", "a"), ("b", "a")], {"where": "a < b + 1"}, "px qya qyb rya ryb"),
        ]:
            found = store.pairs("t", "u", on, **named)
            self.assertIs(type(found), tuple)
            self.assertEqual(" ".join(one + other for one, other in found), due, (on, named))
            firsts, seconds = [one for one, _ in found], [other for _, other in found]
            is_partwise = len(set(firsts)) == len(firsts) and len(set(seconds)) == len(seconds)
            self.assertIs(store.is_partwise("t", "u", on, **named), is_partwise)
        self.assertEqual(store.looked, ())

    def test_partwise(self):
        store = store_of("create t a:number by range a", "part p of t range 0 to 10", "part q of t range 10 to 20",
                         "create u a:number by range a", "part x of u range 0 to 10", "part y of u range 10 to 20",
                         "part z of u default")
        self.assertIs(store.is_partwise("t", "u", [("a", "a")]), True)
        self.assertIs(store.is_partwise(one="t", other="t", on=[("a", "a")]), True)
        store.rebound("y", store.bound_of("p").read("range 10 to 19"))
        self.assertIs(store.is_partwise("t", "u", [("a", "a")]), False)
        self.assertIs(store.is_partwise("u", "t", [("a", "a")]), False)
        self.assertIs(store.is_partwise("t", "u", [("a", "a")], where="a <> 19"), True)
        self.assertIs(store.is_partwise("t", "u", [("a", "a")], where="a is null"), True)


class SearchTest(unittest.TestCase):
    """Compares with the model, that tries out all small rows."""

    def test_random_joins(self):
        chooser = random.Random(70)
        sizes = []
        for _ in range(14):
            pair, history = grown(self, chooser, "create_part", "add_check", "add_rows")
            for _ in range(15):
                history.join()
                history.pairs()
                history.partwise()
                pair.compare()
            sizes.append(len(pair.store.looked))
        self.assertGreater(max(sizes), 2)


if __name__ == "__main__":
    unittest.main()
