"""The interface: where each class and function is defined, its members and arguments."""

import importlib
import inspect
import unittest

# The file, the class, its constructor's arguments, its properties, its methods.
CLASSES = [
    (
        "columns",
        "Column",
        "(name, kind, *, is_required=False)",
        ["name", "kind", "is_required"],
        {"is_value": "(self, value)"},
        ["__eq__"],
    ),
    (
        "columns",
        "Schema",
        "(*columns)",
        ["columns", "names"],
        {"is_row": "(self, value)"},
        ["__eq__", "__len__", "__getitem__"],
    ),
    (
        "conditions",
        "Condition",
        "(schema, text)",
        ["schema", "text", "parameters"],
        {"truth": "(self, row, *parameters)"},
        ["__eq__", "__and__", "__or__", "__invert__"],
    ),
    ("bounds", "Bound", "()", [], {"read": "(text)"}, []),
    ("bounds", "Range", "(low, high)", ["text"], {}, ["__eq__", "__contains__"]),
    ("bounds", "Values", "(*values)", ["text"], {}, ["__eq__", "__contains__"]),
    ("bounds", "Rest", "(modulus, remainder)", ["text"], {}, ["__eq__", "__contains__"]),
    ("bounds", "Default", "()", ["text"], {}, ["__eq__"]),
]

# The file, the function, its arguments.
FUNCTIONS = [
    ("possible", "possible", "(schema, true=(), kept=())"),
    ("possible", "least_key", "(schema, columns, true=(), kept=())"),
    ("possible", "greatest_key", "(schema, columns, true=(), kept=())"),
    ("possible", "follows", "(condition, kept=())"),
    ("reasons", "reason", "(schema, true=(), kept=())"),
    ("reasons", "is_reason", "(schema, true, kept, value)"),
]


def find(file, name):
    return getattr(importlib.import_module(f"partwise.{file}"), name)


class InterfaceTest(unittest.TestCase):
    def test_classes(self):
        for file, name, arguments, _, _, _ in CLASSES:
            cls = find(file, name)
            self.assertTrue(inspect.isclass(cls))
            self.assertEqual(cls.__module__, f"partwise.{file}")
            self.assertEqual(cls.__name__, name)
            self.assertEqual(str(inspect.signature(cls)), arguments)

    def test_functions(self):
        for file, name, arguments in FUNCTIONS:
            function = find(file, name)
            self.assertTrue(inspect.isfunction(function))
            self.assertEqual(function.__module__, f"partwise.{file}")
            self.assertEqual(function.__name__, name)
            self.assertEqual(str(inspect.signature(function)), arguments)

    def test_properties_are_defined_in_the_class(self):
        for file, name, _, properties, _, _ in CLASSES:
            for member in properties:
                self.assertIsInstance(vars(find(file, name))[member], property)

    def test_methods_are_defined_in_the_class(self):
        for file, name, _, _, methods, operators in CLASSES:
            members = vars(find(file, name))
            for member in methods:
                self.assertIn(member, members)
                self.assertEqual(str(inspect.signature(getattr(find(file, name), member))), methods[member])
            for member in operators:
                self.assertTrue(inspect.isfunction(members[member]), member)

    def test_bounds_are_below_bound(self):
        for name in ("Range", "Values", "Rest", "Default"):
            self.assertEqual(find("bounds", name).__bases__, (find("bounds", "Bound"),))


if __name__ == "__main__":
    unittest.main()
