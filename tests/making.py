"""Schemas and conditions by chance, always the same ones for the same chooser."""

from partwise.columns import Column, Schema
from partwise.conditions import Condition

SIGNS = "= <> < <= > >=".split()
NUMBERS = list(range(-4, 5))
WORDS = ["a", "aa", "b", "ba", "bb", "c", "zzzzzzzz"]


def random_schema(chooser, count, kinds=("number", "number", "word")):
    """A schema of one column up to that many."""
    return Schema(*[
        Column(name, chooser.choice(kinds), is_required=chooser.random() < 0.4)
        for name in "abcde"[:chooser.randint(1, count)]
    ])


def random_condition(chooser, schema, count, numbers=NUMBERS, words=WORDS):
    """A condition with that many atoms over these values, in which parameters may occur."""
    return Condition(schema, _Maker(chooser, schema, numbers, words).text(count))


class _Maker:
    def __init__(self, chooser, schema, numbers, words):
        self.chooser = chooser
        self.schema = schema
        self.numbers = numbers
        self.words = words
        self.parameters = []
        self.nots = 0

    def text(self, count):
        if count == 1:
            return self.negated(self.atom())
        first = self.chooser.randint(1, count - 1)
        word = self.chooser.choice(["and", "or"])
        return f"{self.part(first)} {word} {self.part(count - first)}"

    def part(self, count):
        text = self.text(count)
        # At most eight atoms are nested less than five deep, if not all are cut off one by one.
        return self.negated(f"( {text} )") if 1 < count <= 4 else text

    def negated(self, text):
        if self.nots == 5 or self.chooser.random() < 0.8:
            return text
        self.nots += 1
        return f"not {text}"

    def atom(self):
        column = self.chooser.choice(self.schema.columns)
        forms = [self.null, self.values, self.value, self.value, self.column, self.parameter]
        if column.kind == "number":
            forms += [self.rest, self.shift]
        return self.chooser.choice(forms)(column)

    def sign(self):
        return self.chooser.choice(SIGNS)

    def constant(self, column):
        if column.kind == "number":
            return str(self.chooser.choice(self.numbers))
        return "'" + self.chooser.choice(self.words)

    def other(self, column):
        others = [other.name for other in self.schema.columns if other.kind == column.kind]
        return self.chooser.choice(others)

    def null(self, column):
        return f"{column.name} is " + self.chooser.choice(["null", "not null"])

    def values(self, column):
        values = [self.constant(column) for _ in range(self.chooser.randint(1, 8))]
        return f"{column.name} in ( {' '.join(values)} )"

    def value(self, column):
        return f"{column.name} {self.sign()} {self.constant(column)}"

    def column(self, column):
        return f"{column.name} {self.sign()} {self.other(column)}"

    def parameter(self, column):
        known = [k for k, kind in enumerate(self.parameters, 1) if kind == column.kind]
        if len(self.parameters) < 2:
            self.parameters.append(column.kind)
            known = [len(self.parameters)]
        if not known:
            return self.value(column)
        return f"{column.name} {self.sign()} ${self.chooser.choice(known)}"

    def rest(self, column):
        modulus = self.chooser.choice([2, 3, 4, 5, 6])
        return f"{column.name} rest {modulus} {self.chooser.randrange(modulus)}"

    def shift(self, column):
        more = f"{self.chooser.choice('+-')} {self.chooser.randint(1, 3)}"
        return f"{column.name} {self.sign()} {self.other(column)} {more}"
