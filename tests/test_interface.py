"""The interface: where each class is defined, its members and their arguments."""

import inspect
import unittest

from partwise import columns

# The class, its constructor's arguments, its properties, its methods.
LISTED = [
    (
        "Column",
        "(name, kind, *, is_required=False)",
        ["name", "kind", "is_required"],
        {"is_value": "(self, value)"},
        ["__eq__"],
    ),
    (
        "Schema",
        "(*columns)",
        ["columns", "names"],
        {"is_row": "(self, value)"},
        ["__eq__", "__len__", "__getitem__"],
    ),
]


class InterfaceTest(unittest.TestCase):
    def test_classes(self):
        for name, arguments, _, _, _ in LISTED:
            cls = getattr(columns, name)
            self.assertEqual(cls.__module__, "partwise.columns")
            self.assertEqual(cls.__name__, name)
            self.assertEqual(str(inspect.signature(cls)), arguments)

    def test_properties_are_defined_in_the_class(self):
        for name, _, properties, _, _ in LISTED:
            for member in properties:
                self.assertIsInstance(vars(getattr(columns, name))[member], property)

    def test_methods_are_defined_in_the_class(self):
        for name, _, _, methods, operators in LISTED:
            members = vars(getattr(columns, name))
            for member, arguments in methods.items():
                self.assertEqual(str(inspect.signature(members[member])), arguments)
            for member in operators:
                self.assertTrue(inspect.isfunction(members[member]), member)


if __name__ == "__main__":
    unittest.main()
