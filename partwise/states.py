"""What has been assumed, and the least values that follow from it."""

from partwise.literals import ALL_RESTS
from partwise.limits import MAX_MODULUS


def next_place(place, mask):
    """The first place from this one on whose rest is in the mask, which is not empty."""
    while not mask >> place % MAX_MODULUS & 1:
        place = place + 1
    return place


class State:
    """Literals, and the least place of each unknown with which all of them hold.

    Each literal bounds one place from below by at most one other, so there are
    places that are least at once. A link tells where a least place comes from:
    the unknown, the place, the literal, and the link of the unknown before.

    If no places fit, `fault` is a tuple: `("rests",)`; `("end", link, literal)`,
    where the literal says that the place is too great; or `("loop", link, earlier)`,
    where the place grows without an end from an earlier link on.
    """

    def __init__(self, ends, required):
        self.ends = ends
        self.fault = None
        self.made = ()
        self.nulls = {}
        self.low = {}
        self.limits = {}
        self.bases = {}
        self.links = {}
        self.masks = {}
        self.edges = {}
        for name in required:
            self.assume(("some", name))

    def with_literal(self, literal):
        """A new state in which the literal is assumed, too."""
        other = State(self.ends, ())
        other.made = self.made
        other.nulls = dict(self.nulls)
        other.low = dict(self.low)
        other.limits = dict(self.limits)
        other.bases = dict(self.bases)
        other.links = dict(self.links)
        other.masks = dict(self.masks)
        other.edges = dict(self.edges)
        other.assume(literal)
        return other

    def place(self, name):
        """The least place of an unknown, None if it can be None."""
        return self.low.get(name)

    def is_open(self, name):
        """Whether nothing is assumed of the unknown."""
        return name not in self.nulls and name not in self.low

    def is_met(self, literal):
        """Whether the literal holds for the least places, and None where that is open.

        If it needs unknowns that are not None, they are some already.
        """
        kind = literal[0]
        place = self.low.get(literal[1])
        if kind == "null":
            return place is None
        if place is None:
            return False
        if kind == "some":
            return True
        if kind == "least":
            return place >= literal[2]
        if kind == "less":
            return place < literal[2]
        if kind == "rests":
            return literal[2] >> place % MAX_MODULUS & 1 == 1
        return self.low[literal[2]] >= place + literal[3]

    def assume(self, literal):
        """Adds a literal; its unknowns are assumed to be some before, unless it says so."""
        self.made = self.made + (literal,)
        kind = literal[0]
        name = literal[1]
        if kind == "null":
            self.nulls[name] = True
        elif kind == "some":
            self._set_some(name)
        elif kind == "least":
            if literal[2] > self.bases[name][0]:
                self.bases[name] = (literal[2], literal)
            self._lift(name, literal[2], literal, None)
            self._spread([name])
        elif kind == "less":
            if literal[2] < self.limits[name][0]:
                self.limits[name] = (literal[2], literal)
            self._check(name)
        elif kind == "rests":
            self._add_rests(name, literal[2])
        else:
            self.edges[name] = self.edges.get(name, ()) + (literal,)
            self._spread([name])

    def _set_some(self, name):
        low, high = self.ends[name]
        literal = ("some", name)
        self.bases[name] = (low, literal)
        self.limits[name] = (high + 1, literal)
        self.low[name] = low
        self.links[name] = (name, low, literal, None)

    def _add_rests(self, name, mask):
        self.masks[name] = self.masks.get(name, ALL_RESTS) & mask
        if self.masks[name] == 0:
            self.fault = ("rests",)
            return
        # The links are made anew, so that each of them heeds all rests.
        for other in list(self.low):
            place, literal = self.bases[other]
            place = next_place(place, self.masks.get(other, ALL_RESTS))
            self.low[other] = place
            self.links[other] = (other, place, literal, None)
            self._check(other)
        self._spread(list(self.low))

    def _check(self, name):
        """A place that is not below its limit is a fault."""
        if self.low[name] < self.limits[name][0]:
            return
        if self.fault is None:
            self.fault = ("end", self.links[name], self.limits[name][1])

    def _lift(self, name, place, literal, link):
        """Raises the least place of an unknown, if it is less; says whether it was."""
        if place <= self.low[name]:
            return False
        place = next_place(place, self.masks.get(name, ALL_RESTS))
        self.low[name] = place
        self.links[name] = (name, place, literal, link)
        self._check(name)
        earlier = self._earlier(self.links[name])
        if self.fault is None and earlier is not None:
            self.fault = ("loop", self.links[name], earlier)
        return True

    def _earlier(self, link):
        """The earlier link of the same unknown from which the place grows again and again.

        If no rests are passed on the way, each turn around gains the same. Otherwise
        it does so if both places have the same rest.
        """
        name, place, _, earlier = link
        is_free = name not in self.masks
        while earlier is not None:
            if earlier[0] == name and (is_free or (place - earlier[1]) % MAX_MODULUS == 0):
                return earlier
            is_free = is_free and earlier[0] not in self.masks
            earlier = earlier[3]
        return None

    def _spread(self, names):
        """Raises what follows from the places of these unknowns, until nothing does."""
        while names and self.fault is None:
            name = names[0]
            names = names[1:]
            for literal in self.edges.get(name, ()):
                other = literal[2]
                if self._lift(other, self.low[name] + literal[3], literal, self.links[name]):
                    names = names + [other]
