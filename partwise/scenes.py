"""Rows and parameters of which only needs are known."""

from partwise.grammar import PARAMETERS
from partwise.places import ends_of
from partwise.search import Problem, greatest_places, least_places

# What stands in front of the unknowns of a second row, or of its parameters.
OTHER = "other "


class Scene:
    """The unknowns of one row or two, and what is needed of them."""

    def __init__(self):
        self.ends = {}
        self.required = []
        self.needs = []

    def add_row(self, schema, names, needs):
        """A row that meets the needs; its unknowns have the names that names has for theirs."""
        for column in schema.columns:
            self.add_unknown(names.get(column.name, column.name), column.kind, column.is_required)
        for need in needs:
            self.needs.append(renamed(need, names))

    def add_unknown(self, name, kind, is_required):
        self.ends[name] = ends_of(kind)
        if is_required:
            self.required.append(name)

    def add_parameters(self, match, names):
        """The parameters of a match, with the names that names has for theirs."""
        for at, kind in enumerate(match.kinds):
            name = names.get(PARAMETERS[at], PARAMETERS[at])
            self.add_unknown(name, kind, False)
            if match.given is not None:
                self.settle(name, match.given[at])

    def settle(self, name, place):
        """The unknown has this place."""
        if place is None:
            self.needs.append(("null", name))
        else:
            self.ends[name] = (place, place)
            self.required.append(name)

    def least(self, names):
        """The least places of these unknowns, None if the needs cannot be met."""
        return least_places(Problem(self.ends, self.required, self.needs), names)

    def greatest(self, names):
        """The greatest places of these unknowns, None if the needs cannot be met."""
        return greatest_places(Problem(self.ends, self.required, self.needs), names)

    def is_empty(self):
        """Whether the needs cannot be met."""
        return self.least(()) is None


def other_names(schema):
    """The names of the unknowns of a second row."""
    return {name: OTHER + name for name in schema.names}


def other_parameters():
    """The names of the parameters that belong to a second row alone."""
    return {name: OTHER + name for name in PARAMETERS}


def renamed(need, names):
    """The need with other unknowns; those that names does not have stay."""
    kind = need[0]
    if kind in ("and", "or"):
        return (kind, tuple([renamed(branch, names) for branch in need[1]]))
    name = names.get(need[1], need[1])
    if kind == "edge":
        return (kind, name, names.get(need[2], need[2]), need[3])
    return (kind, name) + need[2:]


def equal_need(one, other):
    """The need that two unknowns are both None or equal."""
    both_null = ("and", (("null", one), ("null", other)))
    return ("or", (both_null, same_need(one, other, 0)))


def same_need(one, other, more):
    """The need that two unknowns are not None, and that other is one + more."""
    somes = (("some", one), ("some", other))
    return ("and", somes + (("edge", one, other, more), ("edge", other, one, -more)))


def greater_need(one, other):
    """The need that the value of one is greater than that of other; None is the least."""
    above_null = ("and", (("some", one), ("null", other)))
    above = ("and", (("some", one), ("some", other), ("edge", other, one, 1)))
    return ("or", (above_null, above))
