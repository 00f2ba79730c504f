"""The trees of conditions, and their truth.

A tree is a tuple: `("and", trees)`, `("or", trees)`, `("not", tree)` or an atom.
Unknowns are columns, by their names, and parameters (`"$1"`). The atoms speak of
the places of values:
- `("null", x)`: x is None
- `("within", x, spans)`: x is in one of the spans
- `("apart", x, y, spans)`: x - y is in one of the spans
- `("rest", x, modulus, remainder)`
"""

from partwise.places import place_of
from partwise.spans import compared, gathered, holds
from partwise.texts import read_number, read_value

TRUTHS = (True, False, None)


def formula_of(text):
    """The tree of a text that is known to be right."""
    return _read_condition(text.split(" "), 0)[0]


def _read_condition(words, at):
    """The tree of the CONDITION that begins there, and the index behind it."""
    tree, at = _read_all(words, at)
    trees = [tree]
    while at < len(words) and words[at] == "or":
        tree, at = _read_all(words, at + 1)
        trees.append(tree)
    return _gathered("or", trees), at


def _read_all(words, at):
    tree, at = _read_factor(words, at)
    trees = [tree]
    while at < len(words) and words[at] == "and":
        tree, at = _read_factor(words, at + 1)
        trees.append(tree)
    return _gathered("and", trees), at


def _gathered(word, trees):
    return trees[0] if len(trees) == 1 else (word, tuple(trees))


def _read_factor(words, at):
    if words[at] == "not":
        tree, at = _read_factor(words, at + 1)
        return ("not", tree), at
    if words[at] == "(":
        tree, at = _read_condition(words, at + 1)
        return tree, at + 1
    return _read_atom(words, at)


def _read_atom(words, at):
    name, verb = words[at], words[at + 1]
    if verb == "is":
        if words[at + 2] == "null":
            return ("null", name), at + 3
        return ("not", ("null", name)), at + 4
    if verb == "in":
        end = at + 3
        while words[end] != ")":
            end = end + 1
        places = [place_of(read_value(word)) for word in words[at + 3:end]]
        return ("within", name, gathered(places)), end + 1
    if verb == "rest":
        return ("rest", name, read_number(words[at + 2]), read_number(words[at + 3])), at + 4
    return _read_comparison(words, at)


def _read_comparison(words, at):
    name, sign, operand = words[at:at + 3]
    value = read_value(operand)
    if value is not None:
        return ("within", name, compared(sign, place_of(value))), at + 3
    if at + 3 < len(words) and words[at + 3] in ("+", "-"):
        more = read_number(words[at + 4])
        if words[at + 3] == "-":
            more = -more
        return ("apart", name, operand, compared(sign, more)), at + 5
    return ("apart", name, operand, compared(sign, 0)), at + 3


def unknowns_of(atom):
    """The unknowns of an atom."""
    return atom[1:3] if atom[0] == "apart" else atom[1:2]


def truth_of(tree, places):
    """True, False or None, with the places of the unknowns (None for None)."""
    return truths_of(tree, lambda atom: (_atom_truth(atom, places),))[0]


def _atom_truth(atom, places):
    kind = atom[0]
    name = atom[1]
    if kind == "null":
        return places[name] is None
    if None in [places[unknown] for unknown in unknowns_of(atom)]:
        return None
    if kind == "within":
        return holds(atom[2], places[name])
    if kind == "apart":
        return holds(atom[3], places[name] - places[atom[2]])
    return places[name] % atom[2] == atom[3]


def truths_of(tree, truths_of_atom):
    """What the tree may be, a tuple, if each atom may be what the function returns of it."""
    if tree[0] == "not":
        truths = truths_of(tree[1], truths_of_atom)
        return tuple([truth if truth is None else not truth for truth in truths])
    if tree[0] not in ("and", "or"):
        return truths_of_atom(tree)
    # The truth that decides, whatever the others are.
    strong = tree[0] == "or"
    truths = (not strong,)
    for branch in tree[1]:
        others = truths_of(branch, truths_of_atom)
        pairs = [(one, other) for one in truths for other in others]
        found = [_joined(one, other, strong) for one, other in pairs]
        truths = tuple([truth for truth in TRUTHS if truth in found])
    return truths


def _joined(one, other, strong):
    """`and` of two truths if False is the strong one, `or` if True is."""
    if strong in (one, other):
        return strong
    if one is None or other is None:
        return None
    return not strong
