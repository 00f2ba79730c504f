"""Literals: what can be assumed of unknowns, and what a tree needs of them.

- `("null", x)`, `("some", x)`: x is None, is not None
- `("least", x, place)`, `("less", x, place)`: x >= place, x < place
- `("edge", x, y, n)`: y >= x + n
- `("rests", x, mask)`: the bit x modulo 60 of the mask is set

All but the first two are made only of unknowns that are not None. A need is a
literal, `("and", needs)` or `("or", needs)`.
"""

from partwise.formulas import unknowns_of
from partwise.limits import MAX_MODULUS
from partwise.spans import clipped, complement, holds

ALWAYS = ("and", ())
NEVER = ("or", ())
ALL_RESTS = 2 ** 60 - 1

# What may be asked of a tree, and what is then asked of the tree behind `not`.
OPPOSITES = {"true": "false", "false": "true", "not false": "not true", "not true": "not false"}

# The words that change places behind `not`.
OTHERS = {"and": "or", "or": "and"}


def opposite(literal):
    """What holds where the literal does not (for all but null: of values other than None)."""
    kind = literal[0]
    if kind == "null":
        return ("some", literal[1])
    if kind == "some":
        return ("null", literal[1])
    if kind == "least":
        return ("less", literal[1], literal[2])
    if kind == "less":
        return ("least", literal[1], literal[2])
    if kind == "rests":
        return ("rests", literal[1], ALL_RESTS - literal[2])
    return ("edge", literal[2], literal[1], 1 - literal[3])


def need_of(tree, asked, ends):
    """What the tree needs to be as asked; ends has the least and greatest place of each unknown."""
    kind = tree[0]
    if kind == "not":
        return need_of(tree[1], OPPOSITES[asked], ends)
    if kind in ("and", "or"):
        is_same = asked in ("true", "not false")
        needs = tuple([need_of(branch, asked, ends) for branch in tree[1]])
        return (kind if is_same else OTHERS[kind], needs)
    if kind == "null":
        return ("null" if asked in ("true", "not false") else "some", tree[1])
    return _need_of_values(tree, asked, ends)


def _need_of_values(atom, asked, ends):
    need = _need_of_places(atom, asked in ("true", "not false"), ends)
    names = unknowns_of(atom)
    if asked in ("true", "false"):
        return ("and", tuple([("some", name) for name in names]) + (need,))
    return ("or", tuple([("null", name) for name in names]) + (need,))


def _need_of_places(atom, is_true, ends):
    """What an atom over unknowns that are not None needs to be True, or False."""
    kind = atom[0]
    name = atom[1]
    if kind == "rest":
        mask = rest_mask(atom[2], atom[3])
        return ("rests", name, mask if is_true else ALL_RESTS - mask)
    spans = atom[-1] if is_true else complement(atom[-1])
    if kind == "within":
        return _need_within(name, spans, ends[name])
    if name == atom[2]:
        return ALWAYS if holds(spans, 0) else NEVER
    return _need_apart(name, atom[2], spans)


def _need_within(name, spans, ends):
    low, high = ends
    spans = clipped(spans, low, high)
    if not spans:
        return NEVER
    needs = []
    if spans[0][0] > low:
        needs.append(("least", name, spans[0][0]))
    if spans[-1][1] < high:
        needs.append(("less", name, spans[-1][1] + 1))
    for one, other in zip(spans, spans[1:]):
        needs.append(("or", (("less", name, one[1] + 1), ("least", name, other[0]))))
    return ("and", tuple(needs))


def _need_apart(one, other, spans):
    """The need that one - other is in the spans."""
    needs = []
    if spans[0][0] is not None:
        needs.append(("edge", other, one, spans[0][0]))
    if spans[-1][1] is not None:
        needs.append(("edge", one, other, -spans[-1][1]))
    for before, behind in zip(spans, spans[1:]):
        needs.append(("or", (("edge", one, other, -before[1]), ("edge", other, one, behind[0]))))
    return ("and", tuple(needs))


def rest_mask(modulus, remainder):
    """The mask of the rests that leave this remainder."""
    mask = 0
    for rest in range(remainder, MAX_MODULUS, modulus):
        mask = mask | 1 << rest
    return mask


def literals_of(need):
    """The literals that occur in a need, in their order."""
    if need[0] not in ("and", "or"):
        return [need]
    return [literal for branch in need[1] for literal in literals_of(branch)]


def mirrored(need):
    """The need of the places with their signs changed."""
    kind = need[0]
    if kind in ("and", "or"):
        return (kind, tuple([mirrored(branch) for branch in need[1]]))
    if kind in ("null", "some"):
        return need
    if kind == "least":
        return ("less", need[1], 1 - need[2])
    if kind == "less":
        return ("least", need[1], 1 - need[2])
    if kind == "edge":
        return ("edge", need[2], need[1], need[3])
    rests = [-rest % MAX_MODULUS for rest in range(MAX_MODULUS) if need[2] >> rest & 1]
    return ("rests", need[1], mask_of(rests))


def mask_of(rests):
    """The mask in which the bits of these different rests are set."""
    mask = 0
    for rest in rests:
        mask = mask | 1 << rest
    return mask
