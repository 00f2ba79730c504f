"""The interface: where each class and function is defined, its members and arguments."""

import importlib
import inspect
import unittest

STORE_METHODS = {
    "create": "(self, name, schema, cut=None)",
    "create_part": "(self, name, parent, bound, cut=None)",
    "drop": "(self, name)",
    "schema_of": "(self, name)",
    "cut_of": "(self, name)",
    "bound_of": "(self, name)",
    "parent_of": "(self, name)",
    "parts_of": "(self, name)",
    "leaves_of": "(self, name)",
    "rows_of": "(self, name)",
    "count_rows": "(self, name)",
    "add_check": "(self, name, label, text)",
    "drop_check": "(self, name, label)",
    "checks_of": "(self, name)",
    "add_key": "(self, name, *columns)",
    "drop_key": "(self, name, *columns)",
    "keys_of": "(self, name)",
    "possible_row": "(self, name)",
    "leaf_of": "(self, name, row)",
    "add_rows": "(self, name, rows)",
    "delete_rows": "(self, name, where='', parameters=())",
    "change_rows": "(self, name, where='', parameters=(), **changes)",
    "moves": "(self, name, where='', parameters=None, **changes)",
    "ask": "(self, name, where='', parameters=(), *, columns=None, order=(), limit=None)",
    "plan_for": "(self, name, where='', parameters=None, *, order=())",
    "count_groups": "(self, name, where='', parameters=(), *, by=())",
    "is_separate": "(self, name, by, where='', parameters=None)",
    "extreme": "(self, name, column, where='', parameters=(), *, is_greatest=False)",
    "join_rows": (
        "(self, one, other, on, *, kind='inner', where='', other_where='', parameters=(), other_parameters=())"
    ),
    "pairs": "(self, one, other, on, *, where='', other_where='', parameters=None, other_parameters=None)",
    "is_partwise": "(self, one, other, on, *, where='', other_where='', parameters=None, other_parameters=None)",
    "attach": "(self, name, parent, bound)",
    "detach": "(self, name)",
    "split_part": "(self, name, pieces)",
    "merge_parts": "(self, names, name, bound)",
    "rebound": "(self, name, bound)",
    "prepare": "(self, name, where='', *, order=(), limit=None)",
    "undo": "(self)",
    "redo": "(self)",
    "in_work": "(self, action)",
    "copied": "(self)",
}

# The file, the class, its constructor's arguments, its properties, its methods.
CLASSES = [
    (
        "columns",
        "Column",
        "(name, kind, *, is_required=False)",
        ["name", "kind", "is_required"],
        {"is_value": "(self, value)"},
        ["__eq__"],
    ),
    (
        "columns",
        "Schema",
        "(*columns)",
        ["columns", "names"],
        {"is_row": "(self, value)"},
        ["__eq__", "__len__", "__getitem__"],
    ),
    (
        "conditions",
        "Condition",
        "(schema, text)",
        ["schema", "text", "parameters"],
        {"truth": "(self, row, *parameters)"},
        ["__eq__", "__and__", "__or__", "__invert__"],
    ),
    ("bounds", "Bound", "()", [], {"read": "(text)"}, []),
    ("bounds", "Range", "(low, high)", ["text"], {}, ["__eq__", "__contains__"]),
    ("bounds", "Values", "(*values)", ["text"], {}, ["__eq__", "__contains__"]),
    ("bounds", "Rest", "(modulus, remainder)", ["text"], {}, ["__eq__", "__contains__"]),
    ("bounds", "Default", "()", ["text"], {}, ["__eq__"]),
    ("cuts", "Cut", "(kind, *columns)", ["kind", "columns", "text"], {}, ["__eq__"]),
    ("store", "Store", "()", ["names", "tops", "looked", "steps"], STORE_METHODS, ["__eq__"]),
    ("store", "GuardedStore", "(limit)", [], {"copied": "(self)"}, []),
    ("store", "CountingStore", "()", ["counts"], {"copied": "(self)"}, []),
    ("store", "GuardedCountingStore", "(limit)", ["counts"], {"copied": "(self)"}, []),
]

# The file, the function, its arguments.
FUNCTIONS = [
    ("possible", "possible", "(schema, true=(), kept=())"),
    ("possible", "least_key", "(schema, columns, true=(), kept=())"),
    ("possible", "greatest_key", "(schema, columns, true=(), kept=())"),
    ("possible", "follows", "(condition, kept=())"),
    ("reasons", "reason", "(schema, true=(), kept=())"),
    ("reasons", "is_reason", "(schema, true, kept, value)"),
    ("cuts", "overlap", "(schema, cut, one, other)"),
    ("cuts", "gap", "(schema, cut, bounds)"),
    ("statements", "run", "(store, text)"),
    ("dumps", "dump", "(store)"),
    ("dumps", "load", "(statements)"),
]


def find(file, name):
    return getattr(importlib.import_module(f"partwise.{file}"), name)


class InterfaceTest(unittest.TestCase):
    def test_classes(self):
        for file, name, arguments, _, _, _ in CLASSES:
            cls = find(file, name)
            self.assertTrue(inspect.isclass(cls))
            self.assertEqual(cls.__module__, f"partwise.{file}")
            self.assertEqual(cls.__name__, name)
            self.assertEqual(str(inspect.signature(cls)), arguments)

    def test_functions(self):
        for file, name, arguments in FUNCTIONS:
            function = find(file, name)
            self.assertTrue(inspect.isfunction(function))
            self.assertEqual(function.__module__, f"partwise.{file}")
            self.assertEqual(function.__name__, name)
            self.assertEqual(str(inspect.signature(function)), arguments)

    def test_properties_are_defined_in_the_class(self):
        for file, name, _, properties, _, _ in CLASSES:
            for member in properties:
                self.assertIsInstance(vars(find(file, name))[member], property)

    def test_methods_are_defined_in_the_class(self):
        for file, name, _, _, methods, operators in CLASSES:
            members = vars(find(file, name))
            for member in methods:
                self.assertIn(member, members)
                self.assertEqual(str(inspect.signature(getattr(find(file, name), member))), methods[member])
            for member in operators:
                self.assertTrue(inspect.isfunction(members[member]), member)

    def test_stores_are_below_store(self):
        store, guarded, counting = [find("store", name) for name in ("Store", "GuardedStore", "CountingStore")]
        self.assertEqual(guarded.__bases__, (store,))
        self.assertEqual(counting.__bases__, (store,))
        self.assertTrue(issubclass(find("store", "GuardedCountingStore"), guarded))
        self.assertTrue(issubclass(find("store", "GuardedCountingStore"), counting))

    def test_plans_and_prepared_questions(self):
        store = find("store", "Store")()
        store.create("t", find("columns", "Schema")(find("columns", "Column")("a", "number")))
        for value, properties, methods in [
            (store.plan_for("t"), ["leaves", "whole", "runs"], {}),
            (store.prepare("t"), ["plan"], {"is_stale": "()", "run": "(*parameters)", "renew": "()"}),
        ]:
            self.assertEqual(value.__class__.__module__, "partwise.store")
            for member in properties:
                self.assertIsInstance(vars(type(value))[member], property)
            for member in methods:
                self.assertIn(member, vars(type(value)))
                self.assertEqual(str(inspect.signature(getattr(value, member))), methods[member])

    def test_bounds_are_below_bound(self):
        for name in ("Range", "Values", "Rest", "Default"):
            self.assertEqual(find("bounds", name).__bases__, (find("bounds", "Bound"),))


if __name__ == "__main__":
    unittest.main()
