"""Walks, by which a value grows too great.

A walk is a list of literals: the first one says where the value begins, the
edges between lead on, and the last one is a limit, or an edge back.
"""

from math import gcd

from partwise.limits import MAX_MODULUS
from partwise.states import next_place


def walk_of(fault, kinds):
    """The walk by which a state has its fault."""
    kind, link, last = fault
    if kind == "end":
        return _way_to(link, None) + [last]
    turn = _way_to(link, last)
    # A number comes back with the same rest only after some turns.
    turns = 1
    if kinds[link[0]] == "number":
        turns = MAX_MODULUS // gcd(link[1] - last[1], MAX_MODULUS)
    return _way_to(last, None) + turn * turns


def _way_to(link, start):
    """The literals of the links behind the start (None: of all links) up to this one."""
    literals = []
    while link is not None and (start is None or link[:2] != start[:2]):
        literals.append(link[2])
        link = link[3]
    return literals[::-1]


def is_walk(literals, facts, kinds):
    """Whether these literals, all of them assumed, make a value grow too great."""
    kind, name = literals[0][:2]
    if kind not in ("least", "some"):
        return False
    start = literals[0][2] if kind == "least" else facts.ends[name][0]
    place = _raised(name, start, facts)
    passed = {name: [place]}
    for literal in literals[1:-1]:
        if place is None or literal[0] != "edge" or literal[1] != name:
            return False
        name = literal[2]
        place = _raised(name, place + literal[3], facts)
        passed.setdefault(name, []).append(place)
    if place is None or literals[-1][1] != name:
        return False
    return _is_end(literals[-1], place, passed, facts, kinds)


def _raised(name, place, facts):
    """The next place that all rests allow, None if there is none."""
    mask = facts.masks[name]
    return None if mask == 0 else next_place(place, mask)


def _is_end(literal, place, passed, facts, kinds):
    """Whether the walk may end so, from the place of the first unknown of the literal."""
    kind, name = literal[:2]
    if kind == "less":
        return place >= literal[2]
    if kind == "some":
        return place > facts.ends[name][1]
    if kind != "edge":
        return False
    name = literal[2]
    # An unknown without a place was not passed before.
    place = _raised(name, place + literal[3], facts)
    is_word = kinds[name] == "word"
    return any([
        earlier < place and (is_word or (place - earlier) % MAX_MODULUS == 0)
        for earlier in passed.get(name, [])
    ])
