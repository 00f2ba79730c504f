"""A second, slow reading of the document, to compare the program with.

It shares no code with the package. Atoms are cut out of a text, and Python's own
parser reads what is left, for `and`, `or`, `not` and parentheses bind there as
they do in a condition.
"""

import ast
import functools
import itertools
import operator
import re

SIGNS = {
    "=": operator.eq,
    "<>": operator.ne,
    "<": operator.lt,
    "<=": operator.le,
    ">": operator.gt,
    ">=": operator.ge,
}
ATOM = re.compile(
    r"(?P<name>[a-z]{1,8}) (?:"
    r"is (?P<negation>not )?(?P<null>null)"
    r"|in \( (?P<values>[^)]*) \)"
    r"|rest (?P<modulus>\d+) (?P<remainder>\d+)"
    r"|(?P<sign>=|<>|<=?|>=?) (?P<operand>\S+)(?P<shift> [+-] \d+)?"
    r")(?= |$)"
)
TRUTHS = (True, False, None)


def value_of(word):
    return word[1:] if word.startswith("'") else int(word)


@functools.lru_cache(maxsize=1000)
def split_text(text):
    """The atoms of a right text, and the text with each of them as a call `at(0)` .."""
    atoms = []

    def cut(match):
        atoms.append({key: value for key, value in match.groupdict().items() if value})
        return f"at({len(atoms) - 1})"

    # A word such as `not` is the name of no column.
    rest = re.sub(r"(?<!\S)(not|and|or) ", lambda match: match[0].upper(), text)
    rest = ATOM.sub(cut, rest.replace("is NOT null", "is not null"))
    return atoms, ast.parse(rest.lower(), mode="eval").body


def fold(node, truths):
    """The truth of the tree, with the truths of the atoms."""
    if isinstance(node, ast.Call):
        return truths[node.args[0].value]
    if isinstance(node, ast.UnaryOp):
        truth = fold(node.operand, truths)
        return None if truth is None else not truth
    found = [fold(value, truths) for value in node.values]
    strong = isinstance(node.op, ast.Or)
    if strong in found:
        return strong
    return None if None in found else not strong


def unknowns(atom):
    """The unknowns of an atom, a column beside itself twice."""
    operand = atom.get("operand", "1")
    is_unknown = operand.startswith("$") or operand[0].isalpha()
    return [atom["name"]] + ([operand] if is_unknown else [])


def atom_truth(atom, values):
    """The truth of an atom, with the values of its unknowns."""
    value = values[atom["name"]]
    if "null" in atom:
        return (value is None) != ("negation" in atom)
    if value is None:
        return None
    if "values" in atom:
        return value in [value_of(word) for word in atom["values"].split()]
    if "modulus" in atom:
        return value % int(atom["modulus"]) == int(atom["remainder"])
    return compared(atom, value, values)


def compared(atom, value, values):
    operand = atom["operand"]
    other = values[operand] if operand in values else value_of(operand)
    if other is None:
        return None
    if "shift" in atom:
        other += int(atom["shift"].replace(" ", ""))
    return SIGNS[atom["sign"]](value, other)


def truth(condition, row, parameters=()):
    """The truth of a condition, from its text."""
    values = dict(zip(condition.schema.names, row))
    values.update({f"${k}": value for k, value in enumerate(parameters, 1)})
    atoms, node = split_text(condition.text)
    return fold(node, [atom_truth(atom, values) for atom in atoms])


def order(values):
    """A key by which tuples of values are in the order of point 3."""
    return [(value is not None, 0 if value is None else value) for value in values]


def parameter_kinds(conditions):
    kinds = {}
    for condition in conditions:
        for k, kind in enumerate(condition.parameters, 1):
            kinds[f"${k}"] = kind
    return kinds


def all_rows(schema, true, kept, domains):
    """The rows over small domains (by kinds) that point 20 speaks of."""
    columns = [
        list(domains[column.kind]) + ([] if column.is_required else [None])
        for column in schema.columns
    ]
    kinds = parameter_kinds([*true, *kept])
    parameters = [list(domains[kinds[name]]) + [None] for name in sorted(kinds)]
    return [
        row
        for row in itertools.product(*columns)
        if any(
            allows(row, given, true, kept)
            for given in itertools.product(*parameters)
        )
    ]


def allows(row, parameters, true, kept):
    return all(
        truth(condition, row, parameters) is True for condition in true
    ) and all(truth(condition, row, parameters) is not False for condition in kept)


def can_differ(schema, condition, kept, domains):
    """Whether some row with which none of kept is False does not make the condition True."""
    columns = [
        list(domains[column.kind]) + ([] if column.is_required else [None])
        for column in schema.columns
    ]
    kinds = parameter_kinds([condition, *kept])
    parameters = [list(domains[kinds[name]]) + [None] for name in sorted(kinds)]
    return any(
        allows(row, given, (), kept) and truth(condition, row, given) is not True
        for row in itertools.product(*columns)
        for given in itertools.product(*parameters)
    )


# Point 23.

LAST = "zzzzzzzz"
OPPOSITE = {
    "null": "some", "some": "null", "least": "less", "less": "least", "below": "above", "above": "below",
}


def next_word(word):
    """The next word; behind the last one come longer and longer strings."""
    if word >= LAST or len(word) < 8:
        return word + "a"
    word = word.rstrip("z")
    return word[:-1] + chr(ord(word[-1]) + 1)


def word_before(word):
    if word[-1] == "a":
        return word[:-1] or "a"
    return (word[:-1] + chr(ord(word[-1]) - 1)).ljust(8, "z")


def is_integer(value):
    return type(value) is int


def is_value(value, kind):
    if kind == "number":
        return is_integer(value) and abs(value) <= 10 ** 30
    return type(value) is str and re.fullmatch("[a-z]{1,8}", value) is not None


def is_assumption(value, kinds):
    if type(value) is not tuple or not value or type(value[0]) is not str:
        return False
    kind, names = value[0], value[1:3] if value[0] in ("below", "above") else value[1:2]
    if not names or not all(type(name) is str and name in kinds for name in names):
        return False
    if kind in ("null", "some"):
        return len(value) == 2
    if kind in ("least", "less"):
        return len(value) == 3 and is_value(value[2], kinds[names[0]])
    if kind == "rests":
        return len(value) == 3 and kinds[names[0]] == "number" and are_rests(value[2])
    if kind not in ("below", "above") or len(value) != 4 or len(set(names)) != 2:
        return False
    n = value[3]
    if kinds[names[0]] != kinds[names[1]] or not is_integer(n) or len(str(abs(n))) > 40:
        return False
    return kinds[names[0]] == "number" or n == 0


def are_rests(value):
    return (
        type(value) is tuple
        and 1 <= len(value) <= 59
        and all(is_integer(rest) and 0 <= rest <= 59 for rest in value)
        and list(value) == sorted(set(value))
    )


def opposite(assumption):
    if assumption[0] == "rests":
        return assumption[:2] + (tuple(r for r in range(60) if r not in assumption[2]),)
    return (OPPOSITE[assumption[0]],) + assumption[1:]


class Reasons:
    """Says of any value whether it is a reason, by recursion."""

    def __init__(self, schema, true, kept):
        self.conditions = [*true, *kept]
        self.kept = len(true)
        self.required = [column.name for column in schema.columns if column.is_required]
        self.kinds = {column.name: column.kind for column in schema.columns}
        self.kinds.update(parameter_kinds(self.conditions))

    def is_some(self, name, above):
        return name in self.required or ("some", name) in above

    def accepts(self, value, above=()):
        if type(value) is not tuple or not value:
            return False
        if value[0] == "split" and len(value) == 4:
            return self.is_split(value, above)
        if value[0] == "fails" and len(value) == 2:
            return self.fails(value[1], above)
        return value[0] == "walk" and len(value) == 2 and self.is_walk(value[1], above)

    def is_split(self, value, above):
        _, assumption, one, other = value
        if not is_assumption(assumption, self.kinds):
            return False
        if assumption[0] not in ("null", "some"):
            names = assumption[1:3] if assumption[0] in ("below", "above") else assumption[1:2]
            if not all(self.is_some(name, above) for name in names):
                return False
        return self.accepts(one, above + (assumption,)) and self.accepts(other, above + (opposite(assumption),))

    def fails(self, k, above):
        if not is_integer(k) or not 0 <= k < len(self.conditions):
            return False
        atoms, node = split_text(self.conditions[k].text)
        choices = [self.truths(atom, above) for atom in atoms]
        found = [fold(node, truths) for truths in itertools.product(*choices)]
        return set(found) == {False} if k >= self.kept else True not in found

    def truths(self, atom, above):
        names = unknowns(atom)
        if any(("null", name) in above for name in names):
            return [(True if "negation" not in atom else False) if "null" in atom else None]
        if not all(self.is_some(name, above) for name in names):
            return TRUTHS
        if "null" in atom:
            return ["negation" in atom]
        if len(names) == 2:
            return self.truths_of_two(atom, names, above)
        return self.truths_of_one(atom, names[0], above)

    def truths_of_one(self, atom, name, above):
        mine = [assumption for assumption in above if assumption[1] == name]
        samples = [value for value in self.samples(atom, name, mine) if is_value(value, self.kinds[name])]
        samples = [value for value in samples if within(value, mine)]
        found = {atom_truth(atom, {name: value}) for value in samples}
        if len(found) == 1:
            return list(found)
        if self.kinds[name] == "word":
            return TRUTHS
        samples = [value for value in self.samples(atom, name, mine) if rests_allow(value, mine)]
        found = {atom_truth(atom, {name: value}) for value in samples}
        return list(found) if len(found) == 1 else TRUTHS

    def samples(self, atom, name, mine):
        """Values where the truth of the atom, or what is allowed, may change."""
        words = atom["values"].split() if "values" in atom else [atom["operand"]] if "operand" in atom else []
        constants = [value_of(word) for word in words] + [a[2] for a in mine if a[0] in ("least", "less")]
        if self.kinds[name] == "word":
            constants += ["a", LAST]
            return [f(word) for word in constants for f in (str, next_word, word_before)]
        constants += [10 ** 30, -10 ** 30, 10 ** 45, -10 ** 45]
        return [number + k for number in constants for k in range(-61, 62)]

    def truths_of_two(self, atom, names, above):
        one, other = names
        if one == other:
            return [self.truth_of_difference(atom, 0)]
        edges = [a for a in above if a[0] in ("below", "above") and {a[1], a[2]} == {one, other}]
        shift = int(atom.get("shift", "0").replace(" ", ""))
        constants = [shift, -10 ** 45, 10 ** 45] + [a[3] for a in edges] + [-a[3] for a in edges]
        found = set()
        for difference in [number + k for number in constants for k in range(-2, 3)]:
            if all(difference_fits(difference, edge, one) for edge in edges):
                found.add(self.truth_of_difference(atom, difference))
        return list(found) if len(found) == 1 else TRUTHS

    def truth_of_difference(self, atom, difference):
        return SIGNS[atom["sign"]](difference, int(atom.get("shift", "0").replace(" ", "")))

    def is_walk(self, steps, above):
        if type(steps) is not tuple or len(steps) < 2:
            return False
        if not all(is_assumption(step, self.kinds) for step in steps):
            return False
        for at, step in enumerate(steps):
            is_free = at in (0, len(steps) - 1) and step[0] == "some" and step[1] in self.required
            if step not in above and not is_free:
                return False
        return self.grows(steps, above)

    def grows(self, steps, above):
        name = steps[0][1]
        if steps[0][0] == "least":
            value = steps[0][2]
        elif steps[0][0] == "some":
            value = "a" if self.kinds[name] == "word" else -10 ** 30
        else:
            return False
        value = self.raised(name, value, above)
        passed = [(name, value)]
        for at, step in enumerate(steps[1:], 1):
            if value is None:
                return False
            is_last = at == len(steps) - 1
            if step[0] in ("less", "some"):
                return is_last and step[1] == name and self.is_too_great(step, value)
            if step[0] == "below" and step[1] == name:
                name = step[2]
                value = value if self.kinds[name] == "word" else value - step[3]
            elif step[0] == "above" and step[2] == name:
                name = step[1]
                value = next_word(value) if self.kinds[name] == "word" else value + step[3] + 1
            else:
                return False
            value = self.raised(name, value, above)
            if is_last:
                return value is not None and self.returns(name, value, passed)
            passed.append((name, value))
        return False

    def raised(self, name, value, above):
        mine = [a for a in above if a[1] == name]
        if self.kinds[name] == "word":
            return value
        return next((v for v in range(value, value + 60) if rests_allow(v, mine)), None)

    def is_too_great(self, step, value):
        if step[0] == "less":
            return value >= step[2]
        return value > (LAST if self.kinds[step[1]] == "word" else 10 ** 30)

    def returns(self, name, value, passed):
        earlier = [v for n, v in passed if n == name]
        if self.kinds[name] == "word":
            return any(v < value for v in earlier)
        return any(v < value and (value - v) % 60 == 0 for v in earlier)


def within(value, assumptions):
    return all(
        value >= a[2] if a[0] == "least" else value < a[2]
        for a in assumptions
        if a[0] in ("least", "less")
    )


def rests_allow(value, assumptions):
    return all(value % 60 in a[2] for a in assumptions if a[0] == "rests")


def difference_fits(difference, edge, one):
    kind, x, _, n = edge
    if x != one:
        difference = -difference
    return difference <= n if kind == "below" else difference > n
