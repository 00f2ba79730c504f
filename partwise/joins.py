"""Questions about the rows of two tables that agree in some columns."""

from partwise.doubts import rows_in
from partwise.errors import InvalidJoin
from partwise.forest import find_table, leaf_needs
from partwise.matching import read_match, read_open_match
from partwise.orders import sorted_rows
from partwise.plans import matching_leaves
from partwise.scenes import OTHER, Scene, other_names, other_parameters, same_need

KINDS = ("inner", "left", "some", "none")


class Join:
    """Two tables, the columns in which partners agree, and their conditions."""

    def __init__(self, tables, names, on, matches):
        self.tables = tables
        self.sides = names
        self.on = on
        self.matches = matches

    def leaf_pairs(self):
        """The pairs of leaves that can hold partners, ascending."""
        one, other = [matching_leaves(self.tables, name, match) for name, match in zip(self.sides, self.matches)]
        return [(first, second) for first in one for second in other if self._can_meet(first, second)]

    def _can_meet(self, first, second):
        schema = self.tables[second].schema
        scene = Scene()
        scene.add_row(self.tables[first].schema, {}, self._needs(first, 0))
        scene.add_parameters(self.matches[0], {})
        columns, parameters = other_names(schema), other_parameters()
        names = {**columns, **parameters}
        scene.add_row(schema, names, self._needs(second, 1))
        scene.add_parameters(self.matches[1], names)
        for column, match in self.on:
            scene.needs.append(same_need(column, OTHER + match, 0))
        return not scene.is_empty()

    def _needs(self, leaf, side):
        return leaf_needs(self.tables, leaf) + [self.matches[side].need("true")]

    def result(self, kind):
        """The rows of this kind of join, ascending, and the leaves that are looked at."""
        leaf_pairs = self.leaf_pairs()
        firsts = {first: True for first, _ in leaf_pairs}
        seconds = {second: True for _, second in leaf_pairs}
        if kind in ("left", "none"):
            for leaf in matching_leaves(self.tables, self.sides[0], self.matches[0]):
                firsts[leaf] = True
        partners = self._partners(seconds)
        width = len(self.tables[self.sides[1]].schema)
        found = []
        for row in self.matches[0].selected(rows_in(self.tables, firsts)):
            found.extend(_joined(kind, row, partners.get(self._values(row, 0), []), width))
        return sorted_rows(found), sorted({**firsts, **seconds})

    def _partners(self, leaves):
        """The matching rows in the leaves of the other table, by their values in the columns."""
        partners = {}
        for row in self.matches[1].selected(rows_in(self.tables, leaves)):
            values = self._values(row, 1)
            if None not in values:
                partners.setdefault(values, []).append(row)
        return partners

    def _values(self, row, side):
        names = self.tables[self.sides[side]].schema.names
        return tuple([row[names.index(pair[side])] for pair in self.on])


def _joined(kind, row, partners, width):
    """What a row with these partners adds to the result."""
    if kind == "some":
        return [row] if partners else []
    if kind == "none":
        return [] if partners else [row]
    if kind == "left" and not partners:
        return [row + (None,) * width]
    return [row + partner for partner in partners]


def join_rows_in(tables, names, on, kind, wheres, parameters):
    """The rows, and the leaves that are looked at."""
    schemas = [find_table(tables, name).schema for name in names]
    if kind not in KINDS:
        raise InvalidJoin()
    _check_on(schemas, on)
    matches = [read_match(schema, where, given) for schema, where, given in zip(schemas, wheres, parameters)]
    return Join(tables, names, on, matches).result(kind)


def pairs_in(tables, names, on, wheres, parameters):
    """The pairs of leaves that can hold partners, ascending."""
    schemas = [find_table(tables, name).schema for name in names]
    _check_on(schemas, on)
    matches = [read_open_match(schema, where, given) for schema, where, given in zip(schemas, wheres, parameters)]
    return tuple(Join(tables, names, on, matches).leaf_pairs())


def are_partwise(found):
    """Whether no leaf comes first in two of the pairs, and none second in two."""
    firsts = [first for first, _ in found]
    seconds = [second for _, second in found]
    return len(set(firsts)) == len(firsts) and len(set(seconds)) == len(seconds)


def _check_on(schemas, on):
    if not on:
        raise InvalidJoin()
    for one, other in on:
        # A column that is not there is an error of the schema.
        if schemas[0][one].kind != schemas[1][other].kind:
            raise InvalidJoin()
