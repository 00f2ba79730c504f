"""Values of every kind, and helpers, for the tests."""

import copy

RESERVED = (
    "and or not is null in rest to of into by where set add columns order limit"
).split()

# What the document calls "any value": None, bools, integers of at most 60
# digits, strings, tuples, lists and dicts, nested at most eight deep.
ANY_VALUES = [
    None,
    True,
    False,
    0,
    1,
    -1,
    10 ** 30,
    -10 ** 30,
    10 ** 30 + 1,
    10 ** 60 - 1,
    "",
    " ",
    "a",
    "name",
    "number",
    "word",
    "and",
    "A",
    "a b",
    "a\n",
    "\n",
    "~",
    "5",
    (),
    (1,),
    ("a",),
    (None, True),
    ("number", "word"),
    [],
    ["a"],
    [1, 2],
    ["number"],
    {},
    {"a": 1},
    {"number": "word"},
    {1: [2]},
    ((((((((1,),),),),),),),),
    [[[[[[[[1]]]]]]]],
    {1: {2: {3: {4: {5: {6: {7: {8: 9}}}}}}}},
    (["a", {"b": (None, False)}],),
]


def raised(call):
    """The error that the call raises, None if it raises none."""
    try:
        call()
    except Exception as error:
        return error
    return None


class EqualToAll:
    """An object that takes itself for equal to every value."""

    def __eq__(self, other):
        return True

    def __ne__(self, other):
        return False


def check_equal(test, one, other, is_equal):
    """Fails the test unless the two are equal, or are not, from both sides."""
    test.assertIs(one == other, is_equal)
    test.assertIs(other == one, is_equal)
    test.assertIs(one != other, not is_equal)
    test.assertIs(other != one, not is_equal)


class Kept:
    """Tells whether plain values are still what they were."""

    def __init__(self, *values):
        self.values = values
        self.before = copy.deepcopy(values)

    def is_kept(self):
        # As texts, 1 and True differ, and so do other orders of a dict.
        return repr(self.values) == repr(self.before)
