"""Points 30 and 31: bounds and their texts."""

import itertools
import random
import unittest

from partwise.bounds import Bound, Default, Range, Rest, Values
from partwise.errors import InvalidBound, InvalidText
from tests.samples import ANY_VALUES, EqualToAll, Kept, check_equal, raised

TOP = 10 ** 30
LAST = "zzzzzzzz"
MODULI = (2, 3, 4, 5, 6, 10, 12, 15, 20, 30, 60)

# All kinds of entries of a range, in their order but for numbers beside words.
ENTRIES = ["-", -TOP, -1, 0, 5, TOP, "a", "aa", "b", LAST, "+"]


def is_sign(entry):
    return entry in ("-", "+")


def rank(entry):
    return (1, entry) if not is_sign(entry) else (0, 0) if entry == "-" else (2, 0)


def are_ends(low, high):
    """Whether tuples of entries are ends, by a second reading of point 30."""
    for end in (low, high):
        if len(end) == 2 and is_sign(end[0]) and end[1] != end[0]:
            return False
    for one, other in zip(low, high):
        if not is_sign(one) and not is_sign(other) and type(one) is not type(other):
            return False
    return [rank(entry) for entry in low] < [rank(entry) for entry in high]


def all_ends(count):
    """All tuples of so many entries."""
    return list(itertools.product(ENTRIES, repeat=count))


def holds(low, high, key):
    """Whether a range holds a key of values, by a second reading of point 30."""
    for entry, other in itertools.chain(zip(key, low), zip(key, high)):
        if not is_sign(other) and type(entry) is not type(other):
            return False
    ranks = [rank(entry) for entry in key]
    return [rank(entry) for entry in low] <= ranks < [rank(entry) for entry in high]


class Checks(unittest.TestCase):
    def refuse(self, call):
        error = raised(call)
        self.assertIs(type(error), InvalidBound)
        self.assertEqual(vars(error), {})


class RangeTest(Checks):
    def test_which_ends_are_right(self):
        for count in (1, 2):
            ends = all_ends(count)
            for low, high in itertools.product(ends, repeat=2):
                error = raised(lambda: Range(low, high))
                self.assertIs(type(error), type(None) if are_ends(low, high) else InvalidBound, (low, high))

    def test_named_edges(self):
        self.assertIsNone(raised(lambda: Range((5, "+"), (6, "-"))))
        self.assertIsNone(raised(lambda: Range((5, "-"), (5, "+"))))
        self.assertIsNone(raised(lambda: Range(("-", "-"), ("+", "+"))))
        self.assertIsNone(raised(lambda: Range(low=("-",), high=("a",))))
        for low, high in [
            ((5,), (5,)), ((6,), (5,)), (("a",), (5,)), ((5,), ("a",)), ((5, "a"), (6, 1)), ((5, 1), (5, 1)),
            (("-",), ("-",)), (("+",), ("+",)), (("+",), ("-",)), (("-", 5), (1, 1)), ((1, 1), ("+", 5)),
            (("-", "+"), (1, 1)), ((1, 1), ("+", "-")), ((1,), (2, 3)), ((1, 2), (3,)), ((), ()), ((1, 2, 3), (4, 5, 6)),
            ((), (1,)), ((TOP + 1,), ("+",)), (("-",), (-TOP - 1,)), ((None,), (5,)), ((True,), (5,)), ((0,), (True,)),
            (("",), ("a",)), (("A",), ("a",)), (("abcdefghi",), ("b",)), (("a",), ("'b",)), (("--",), (5,)), (("null",), (5,)),
            ([1], [2]), ([1], (2,)), ((1,), [2]), (1, 2), ("a", "b"), ("-", "+"), (None, None), ({}, {}), (((1,),), ((2,),)),
        ]:
            self.refuse(lambda: Range(low, high))

    def test_any_values(self):
        for value in ANY_VALUES:
            is_end = type(value) is tuple and value in [(1,), ("a",)]
            if not is_end:
                self.refuse(lambda: Range(value, ("+",)))
                self.refuse(lambda: Range(("-",), value))
            is_entry = type(value) is int and abs(value) <= TOP or type(value) is str and value in (
                "a", "name", "number", "word", "and")
            for low, high in [((value,), ("+",)), (("-",), (value,)), ((5, value), ("+", "+")), (("-", "-"), (5, value))]:
                error = raised(lambda: Range(low, high))
                self.assertIs(type(error), type(None) if is_entry else InvalidBound, (low, high))

    def test_keys(self):
        values = [entry for entry in ENTRIES if not is_sign(entry)] + [1, 4, 6, TOP - 1, "ab", "azzzzzzz", "zzzzzzzy"]
        chooser = random.Random(30)
        for count, tries in [(1, 121), (2, 3000)]:
            pairs = [(low, high) for low in all_ends(count) for high in all_ends(count) if are_ends(low, high)]
            for low, high in chooser.sample(pairs, min(tries, len(pairs))):
                bound = Range(low, high)
                keys = list(itertools.product(values, repeat=count))
                for key in chooser.sample(keys, min(len(keys), 20)) + [low, high]:
                    due = not any(is_sign(entry) for entry in key) and holds(low, high, key)
                    self.assertIs(key in bound, due, (low, high, key))

    def test_a_range_that_holds_no_key(self):
        bound = Range((5, "+"), (6, "-"))
        for key in itertools.product([4, 5, 6, 7, "a"], [-TOP, 0, TOP, "a", LAST]):
            self.assertIs(key in bound, False)

    def test_any_keys(self):
        for bound in (Range(("-",), ("+",)), Range((0,), ("+",)), Range(("a",), ("+",)), Range(("-", "-"), ("+", "+"))):
            for value in ANY_VALUES + [("-",), ("+",), (1, 2), ("a", 1), (None,), (None, 1), (1, None), (True,), (True, 1), (
                    TOP + 1,), ("A",), ("",), [1], [1, 2], ((1,),), (1, 2, 3), ("abcdefghi",)]:
                due = type(value) is tuple and value in {
                    "range - to +": [(1,), ("a",)],
                    "range 0 to +": [(1,)],
                    "range 'a to +": [("a",)],
                    "range - - to + +": [(1, 2), ("a", 1), ("number", "word")],
                }[bound.text] and type(value[0]) is not bool
                self.assertIs(value in bound, due, (bound.text, value))

    def test_copies(self):
        low, high = [1], [2]
        bound = Range(tuple(low), tuple(high))
        low[0] = 5
        self.assertEqual(bound.text, "range 1 to 2")


class ValuesTest(Checks):
    def test_right_values(self):
        for values, text in [
            ((None,), "values null"),
            ((5,), "values 5"),
            (("a",), "values 'a"),
            ((5, None, 3), "values null 3 5"),
            (("b", "a", "aa", None), "values null 'a 'aa 'b"),
            ((1, 2, 3, 4, 5, 6, 7, 8), "values 1 2 3 4 5 6 7 8"),
            ((7, 6, 5, 4, 3, 2, 1, None), "values null 1 2 3 4 5 6 7"),
            ((TOP, -TOP, 0), f"values -{TOP} 0 {TOP}"),
            (("null", "and"), "values 'and 'null"),
        ]:
            bound = Values(*values)
            self.assertEqual(bound.text, text)
            for value in values:
                self.assertIs((value,) in bound, True)
            for key in [(4711,), ("nothing",), (), (None, None), values + values, 5, "a", None, [values[0]], values[0]]:
                self.assertIs(key in bound, False, key)
            self.assertIs((None,) in bound, None in values)

    def test_wrong_values(self):
        for values in [
            (), (1, 1), ("a", "a"), (None, None), (1, "a"), ("a", None, 1), tuple(range(9)), (None,) + tuple(range(8)),
            (TOP + 1,), (1, True), (True,), (0, False), ("",), ("A",), ("abcdefghi",), ((1,),), ([1],), ({},), (1, [1]), (None, ()),
            ("-",), ("+",),
        ]:
            self.refuse(lambda: Values(*values))

    def test_any_values(self):
        for value in ANY_VALUES:
            is_value = value is None or type(value) is int and abs(value) <= TOP
            is_word = type(value) is str and value in ("a", "name", "number", "word", "and")
            error = raised(lambda: Values(value))
            self.assertIs(type(error), type(None) if is_value or is_word else InvalidBound, value)
            if not is_word:
                self.refuse(lambda: Values("b", value, None, "c")) if value is not None else None

    def test_any_keys(self):
        for value in ANY_VALUES + [(True,), (False,), (1.5,), (1, 0), ([1],), ((1,),)]:
            self.assertIs(value in Values(0, 1), type(value) is tuple and len(value) == 1 and type(value[0]) is int)
            self.assertIs((value,) in Values(0, 1), type(value) is int and value in (0, 1), value)
            self.assertIs((value,) in Values(None), value is None)


class RestTest(Checks):
    def test_all_moduli(self):
        for modulus in range(-3, 125):
            for remainder in (-1, 0, 1, modulus - 1, modulus, modulus + 1):
                is_right = modulus in MODULI and 0 <= remainder < modulus
                error = raised(lambda: Rest(modulus, remainder))
                self.assertIs(type(error), type(None) if is_right else InvalidBound, (modulus, remainder))

    def test_any_values(self):
        for value in ANY_VALUES:
            self.refuse(lambda: Rest(value, 0))
            if type(value) is bool or value not in (0, 1):
                self.refuse(lambda: Rest(4, value))

    def test_keys(self):
        for modulus in MODULI:
            for remainder in range(modulus):
                bound = Rest(modulus, remainder)
                for number in (-61, -1, 0, 1, 7, 59, 60, TOP, -TOP):
                    self.assertIs((number,) in bound, number % modulus == remainder)
        for value in ANY_VALUES + [(None,), (True,), ("a",), (0, 0), [0], 0, (TOP + 2,)]:
            is_key = type(value) is tuple and len(value) == 1 and type(value[0]) is int and abs(value[0]) <= TOP
            self.assertIs(value in Rest(2, 1), is_key and value[0] % 2 == 1, value)

    def test_text(self):
        self.assertEqual(Rest(4, 1).text, "rest 4 1")
        self.assertEqual(Rest(remainder=59, modulus=60).text, "rest 60 59")


class DefaultTest(unittest.TestCase):
    def test_text(self):
        self.assertEqual(Default().text, "default")
        check_equal(self, Default(), Default(), True)


class EqualityTest(unittest.TestCase):
    def test_equal(self):
        for one, other in [
            (Range((1,), (5,)), Range((1,), (5,))),
            (Range((1, "-"), ("+", "+")), Range((1, "-"), ("+", "+"))),
            (Values(1, 2, None), Values(None, 2, 1)),
            (Values("b", "a"), Values("a", "b")),
            (Rest(4, 1), Rest(4, 1)),
            (Default(), Default()),
        ]:
            check_equal(self, one, other, True)
            check_equal(self, one, one, True)

    def test_different(self):
        bounds = [
            Range((1,), (5,)), Range((1,), (6,)), Range((0,), (5,)), Range((1, "-"), (5, "-")), Range((1, "-"), (5, "+")),
            Range(("-",), ("+",)), Range(("-", "-"), ("+", "+")), Values(1), Values(1, None), Values(None), Values(1, 2),
            Values("a"), Values(1, 2, 3), Rest(4, 1), Rest(4, 2), Rest(2, 1), Default(),
        ]
        for one, other in itertools.permutations(bounds, 2):
            check_equal(self, one, other, False)

    def test_other_values(self):
        for bound in (Range((1,), (5,)), Values(1), Rest(4, 1), Default()):
            for value in ANY_VALUES + [bound.text, Bound, (1,)]:
                check_equal(self, bound, value, False)
            self.assertIs(bound == EqualToAll(), False)

    def test_kinds(self):
        for bound in (Range((1,), (5,)), Values(1), Rest(4, 1), Default()):
            self.assertIsInstance(bound, Bound)
            self.assertIs(type(bound.text), str)
            self.assertRaises(AttributeError, lambda: setattr(bound, "text", ""))


# The numbers in the texts of values.
VALUES = [-TOP, -4, -3, -1, 0, 1, 2, 5, 6, TOP]


def entry_word(entry):
    return f"'{entry}" if type(entry) is str and not is_sign(entry) else str(entry)


def range_texts(count):
    """The words of the texts of all ranges over the entries."""
    for low, high in itertools.product(all_ends(count), repeat=2):
        if are_ends(low, high):
            yield ["range", *map(entry_word, low), "to", *map(entry_word, high)]


def values_texts():
    for values in (VALUES, ["a", "aa", "b", LAST]):
        for count in range(9):
            for chosen in itertools.combinations(values, count):
                for nulls in ([], ["null"]):
                    if 1 <= len(nulls) + count <= 8:
                        yield ["values", *nulls, *map(entry_word, chosen)]


def other_texts():
    for modulus in MODULI:
        for remainder in range(modulus):
            yield ["rest", str(modulus), str(remainder)]
    yield ["default"]


class TextsTest(unittest.TestCase):
    @classmethod
    def setUpClass(cls):
        cls.texts = [*range_texts(1), *range_texts(2), *values_texts(), *other_texts()]
        cls.whole = {tuple(words) for words in cls.texts}
        cls.begun = {words[:k] for words in cls.whole for k in range(len(words) + 1)}

    def index_of(self, text):
        error = raised(lambda: Bound.read(text))
        if error is None:
            return None
        self.assertIs(type(error), InvalidText, text)
        self.assertIs(type(error.index), int)
        return error.index

    def check(self, words):
        """Compares with the texts that begin so; the words are those of the texts."""
        due = None if tuple(words) in self.whole else next(
            (k for k in range(len(words)) if tuple(words[:k + 1]) not in self.begun), len(words))
        self.assertEqual(self.index_of(" ".join(words)), due, words)

    def test_read_back(self):
        for words in self.texts:
            text = " ".join(words)
            self.assertEqual(Bound.read(text).text, text)

    def test_kinds_and_equality(self):
        for bound in (
            Range((1, "a"), (5, "-")), Range(("-",), ("+",)), Values(3, None, 5), Values("a"), Values(None), Rest(4, 1), Default(),
        ):
            read = Bound.read(bound.text)
            self.assertIs(type(read), type(bound))
            check_equal(self, read, bound, True)
        self.assertEqual(Bound.read("range 1 'a to 5 -"), Range((1, "a"), (5, "-")))
        self.assertEqual(Bound.read(text="values null 3 5"), Values(5, 3, None))

    def test_one_word_otherwise(self):
        chooser = random.Random(31)
        vocabulary = "range values rest default to null - + -1 0 5 'a 'aa 'b".split()
        vocabulary += [str(TOP), str(-TOP), f"'{LAST}"]
        for words in chooser.sample(self.texts, 1500) + list(other_texts())[::7]:
            at = chooser.randrange(len(words))
            for other in (
                words[:at], words[:at] + words[at + 1:], words[:at] + words[at:at + 1] + words[at:],
                words[:at] + [chooser.choice(vocabulary)] + words[at:],
                words[:at] + [chooser.choice(vocabulary)] + words[at + 1:],
                words + [chooser.choice(vocabulary)], words[::-1],
            ):
                # The lists of texts hold some numbers only.
                some = {"range": ENTRIES, "values": VALUES}.get(other[0], range(60)) if other else []
                if other and all(int(word) in some for word in other if word.lstrip("-").isdigit()):
                    self.check(other)

    def test_faults(self):
        for text, index in [
            ("", 0), (" ", 0), ("x", 0), ("Range 1 to 2", 0), ("bound", 0), (" default", 0), ("default ", 1),
            ("default default", 1), ("default\n", 0), ("range", 1), ("range ", 1), ("range to", 1), ("range +", 1),
            ("range null to 5", 1), ("range 1", 2), ("range 1 2", 3), ("range 1 to", 3), ("range 1 to 1", 3),
            ("range 1 to 0", 3), ("range 1 to -", 3), ("range 1 to 'a", 3), ("range 1 to 2 3", 4), ("range 1 to to", 3),
            ("range 1 2 3", 3), ("range 1 2 to 3", 5), ("range 1 2 to 0", 4), ("range 1 2 to 1 2", 5), ("range 1 + to 1", 4),
            ("range 1 2 to 1 +", None), ("range 1 2 to 2 'a", 5), ("range 1 2 to 2 1 1", 6), ("range - 1", 2),
            ("range - + to 1 1", 2), ("range - - to + -", 5), ("range - - to -", 4), (f"range {TOP} to", 3),
            (f"range {TOP} to {TOP}", 3), (f"range {TOP} to +", None), (f"range {TOP + 1} to +", 1), ("range 01 to 2", 1),
            ("range -0 to 2", 1), ("range 1 to +2", 3), ("range 'a to 'a", 3), ("range 'a to 'aa", None), ("range a to b", 1),
            ("range 'A to 'b", 1), ("range 1  to 2", 2), ("range 1 to 2 ", 4), ("range 1, to 2", 1), ("values", 1), ("values ", 1),
            ("values 5 3", 2), ("values 5 5", 2), ("values 5 'a", 2), ("values 'b 'a", 2), ("values 'a 5", 2),
            ("values 1 null", 2), ("values null null", 2), ("values null 5 'a", 3), ("values 01", 1), ("values a", 1),
            ("values 1 2 3 4 5 6 7 8", None), ("values 1 2 3 4 5 6 7 8 9", 9), ("values null 1 2 3 4 5 6 7 8", 9),
            ("values -", 1), ("rest", 1), ("rest 4", 2), ("rest 7 0", 1), ("rest 1 0", 1), ("rest 0 0", 1), ("rest 120 1", 1),
            ("rest 4 4", 2), ("rest 4 -1", 2), ("rest 4 01", 2), ("rest 04 1", 1), ("rest 4 'a", 2), ("rest 4 1 1", 3),
            ("rest 4 1 1 1", 3), ("rest 4 1 ", 3), ("values " + "9" * 5000, 1), ("range - to " + "9" * 5000, 3),
            ("rest " + "6" * 5000 + " 0", 1), ("default" * 1000, 0), ("range " + "1 " * 5000, 3),
        ]:
            self.assertEqual(self.index_of(text), index, text)

    def test_any_values(self):
        for value in ANY_VALUES + [Default(), ["default"], ("range", "-")]:
            self.assertEqual(self.index_of(value), 0, value)

    def test_nothing_is_changed(self):
        value = ["default"]
        kept = Kept(value)
        for call in (lambda: Bound.read(value), lambda: Range(value, value), lambda: Values(value), lambda: value in Default()):
            raised(call)
        self.assertIs(value in Values(1), False)
        self.assertTrue(kept.is_kept())


if __name__ == "__main__":
    unittest.main()
