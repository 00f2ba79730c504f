"""What the tests of stores have in common."""

import unittest

from partwise.bounds import Bound
from partwise.dumps import load
from tests.samples import raised

TOP = 10 ** 30
LAST = "zzzzzzzz"

# The store of the examples in the document.
EXAMPLE = [
    "create t a:number! w:word by range a", "part lo of t range 0 to 10", "part hi of t range 10 to 100 by values w",
    "part hx of hi values null 'x", "part hy of hi default",
    "insert t 1 'x / 12 null / 15 'y / 3 null / 20 'x",
]


def bound(text):
    return Bound.read(text)


def store_of(*statements):
    return load(list(statements))


class StoreTest(unittest.TestCase):
    def refuse(self, store, call, error, **fields):
        """Checks that the call raises this error, and that nothing is different behind it."""
        before, looked, steps = store.copied(), store.looked, store.steps
        counts = getattr(store, "counts", None)
        found = raised(call)
        self.assertIs(type(found), error, found and vars(found))
        self.assertEqual(vars(found), fields)
        self.assertEqual(repr(vars(found)), repr(fields))
        self.assertTrue(store == before)
        self.assertEqual((store.looked, store.steps, getattr(store, "counts", None)), (looked, steps, counts))
