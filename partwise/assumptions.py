"""Assumptions, as reasons write them, and the literals that say the same."""

from partwise.limits import MAX_MODULUS
from partwise.literals import mask_of
from partwise.places import place_of, value_at
from partwise.words import is_number, is_word

# The length of the assumptions of each kind.
LENGTHS = {"null": 2, "some": 2, "least": 3, "less": 3, "below": 4, "above": 4, "rests": 3}

MAX_DIFFERENCE = 10 ** 40 - 1

# The kinds of the opposites, but for rests.
OPPOSITES = {
    "null": "some",
    "some": "null",
    "least": "less",
    "less": "least",
    "below": "above",
    "above": "below",
}


def assumption_of(literal, kinds):
    """A literal as an assumption, with the kinds of the unknowns."""
    kind = literal[0]
    name = literal[1]
    if kind in ("null", "some"):
        return literal
    if kind in ("least", "less"):
        return (kind, name, value_at(kinds[name], literal[2]))
    if kind == "rests":
        return (kind, name, tuple([rest for rest in range(MAX_MODULUS) if literal[2] >> rest & 1]))
    # Of words, only these two forms exist.
    if literal[3] <= 0:
        return ("below", name, literal[2], -literal[3])
    return ("above", literal[2], name, literal[3] - 1)


def literal_of(value, kinds):
    """The literal of any value, None if it is no assumption about unknowns of these kinds."""
    if not isinstance(value, tuple) or len(value) < 2:
        return None
    kind, name = value[:2]
    if not isinstance(kind, str) or LENGTHS.get(kind) != len(value) or not _is_unknown(name, kinds):
        return None
    if kind in ("null", "some"):
        return value
    if kind == "rests":
        return _rests_literal(name, value[2], kinds)
    if kind in ("below", "above"):
        return _edge(value, kinds)
    bound = value[2]
    is_value = is_number(bound) if kinds[name] == "number" else is_word(bound)
    return (kind, name, place_of(bound)) if is_value else None


def _is_unknown(value, kinds):
    return isinstance(value, str) and value in kinds


def _rests_literal(name, rests, kinds):
    if kinds[name] != "number" or not isinstance(rests, tuple):
        return None
    if not 1 <= len(rests) < MAX_MODULUS:
        return None
    if not all([is_number(rest) and 0 <= rest < MAX_MODULUS for rest in rests]):
        return None
    if not all([one < other for one, other in zip(rests, rests[1:])]):
        return None
    return ("rests", name, mask_of(rests))


def _edge(value, kinds):
    kind, name, other, more = value
    if not _is_unknown(other, kinds) or other == name or kinds[other] != kinds[name]:
        return None
    if isinstance(more, bool) or not isinstance(more, int):
        return None
    if not -MAX_DIFFERENCE <= more <= MAX_DIFFERENCE or (kinds[name] == "word" and more != 0):
        return None
    if kind == "below":
        return ("edge", name, other, -more)
    return ("edge", other, name, more + 1)


def opposite_of(assumption):
    """The opposite of an assumption."""
    kind, name = assumption[:2]
    if kind == "rests":
        return (kind, name, tuple([rest for rest in range(MAX_MODULUS) if rest not in assumption[2]]))
    return (OPPOSITES[kind],) + assumption[1:]
