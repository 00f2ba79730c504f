"""The tables of a store: a dict from their names, which is replaced and never changed."""

from partwise.errors import UnknownTable
from partwise.holding import ends_of_columns, held_need, is_held, unheld_need
from partwise.literals import need_of
from partwise.orders import sorted_rows


class Table:
    """A table with what belongs to it alone. It is never changed, only replaced."""

    def __init__(self, name, schema, cut):
        self._name = name
        self._schema = schema
        self.cut = cut
        self.parent = None
        self.bound = None
        # Conditions, by their labels.
        self.checks = {}
        # The columns of the keys, in the order of adding.
        self.uniques = ()
        # Of a leaf, ascending.
        self.rows = ()

    @property
    def name(self):
        return self._name

    @property
    def schema(self):
        return self._schema

    def __eq__(self, other):
        return (
            isinstance(other, Table)
            and self._name == other._name
            and self._schema == other._schema
            and self.cut == other.cut
            and self.parent == other.parent
            and self.bound == other.bound
            and self.checks == other.checks
            and self.uniques == other.uniques
            and self.rows == other.rows
        )

    def _twin(self):
        twin = Table(self._name, self._schema, self.cut)
        twin.parent = self.parent
        twin.bound = self.bound
        twin.checks = self.checks
        twin.uniques = self.uniques
        twin.rows = self.rows
        return twin

    def placed(self, parent, bound):
        """The same table as a part, or as a top table (None for both)."""
        twin = self._twin()
        twin.parent = parent
        twin.bound = bound
        return twin

    def checked(self, checks):
        """The same table with these checks."""
        twin = self._twin()
        twin.checks = checks
        return twin

    def keyed(self, uniques):
        """The same table with these keys."""
        twin = self._twin()
        twin.uniques = uniques
        return twin

    def filled(self, rows):
        """The same table with these rows, in any order."""
        twin = self._twin()
        twin.rows = tuple(sorted_rows(rows))
        return twin


def find_table(tables, name):
    """The table with any value as its name."""
    if not isinstance(name, str) or name not in tables:
        raise UnknownTable(name)
    return tables[name]


def replaced(tables, changed):
    """The tables, with those of a list put in the place of the ones with their names."""
    others = dict(tables)
    for table in changed:
        others[table.name] = table
    return others


def part_names(tables, name):
    """The names of the parts of a table, ascending."""
    return sorted([table.name for table in tables.values() if table.parent == name])


def names_below(tables, name):
    """The names of a table and of all parts below it, ascending."""
    found = [name]
    at = 0
    while at < len(found):
        found.extend(part_names(tables, found[at]))
        at = at + 1
    return sorted(found)


def leaf_names(tables, name):
    """The names of the leaves below a table, ascending."""
    return [below for below in names_below(tables, name) if tables[below].cut is None]


def line_of(tables, name):
    """The tables from the top one down to this one."""
    line = []
    while name is not None:
        line.append(tables[name])
        name = tables[name].parent
    return line[::-1]


def top_of(tables, name):
    """The top table above a table, or the table itself."""
    return line_of(tables, name)[0]


def other_bounds(tables, parent, name):
    """The bounds of the parts of a table but for the one with this name."""
    return [tables[part].bound for part in part_names(tables, parent) if part != name]


def rows_below(tables, name):
    """All rows of a table, ascending."""
    return sorted_rows([row for leaf in leaf_names(tables, name) for row in tables[leaf].rows])


def held_by_part(tables, name):
    """What a row needs for the bound of a part to hold it."""
    table = tables[name]
    others = other_bounds(tables, table.parent, name)
    return held_need(table.schema, tables[table.parent].cut, table.bound, others)


def unheld_by_part(tables, name):
    """What a row needs for the bound of a part not to hold it."""
    table = tables[name]
    others = other_bounds(tables, table.parent, name)
    return unheld_need(table.schema, tables[table.parent].cut, table.bound, others)


def is_held_by_part(tables, name, row):
    """Whether the bound of a part holds the row; True for a top table."""
    table = tables[name]
    if table.parent is None:
        return True
    others = other_bounds(tables, table.parent, name)
    return is_held(table.schema, tables[table.parent].cut, table.bound, others, row)


def leaf_needs(tables, leaf):
    """What a row needs to be possible in a leaf."""
    needs = []
    for table in line_of(tables, leaf):
        if table.parent is not None:
            needs.append(held_by_part(tables, table.name))
        for label in sorted(table.checks):
            needs.append(check_need(table.checks[label], "not false"))
    return needs


def check_need(check, asked):
    """What a row needs for a check to be as asked."""
    return need_of(check.formula, asked, ends_of_columns(check.schema))


def leaf_for(tables, name, row):
    """The name of the leaf of the table to which the row belongs, or None."""
    if not all([is_held_by_part(tables, table.name, row) for table in line_of(tables, name)]):
        return None
    while tables[name].cut is not None:
        holders = [part for part in part_names(tables, name) if is_held_by_part(tables, part, row)]
        if not holders:
            return None
        name = holders[0]
    return name


def failing_check(tables, name, row):
    """The label of the first check of the table and those above it that is False; None if none is."""
    for table in line_of(tables, name):
        for label in sorted(table.checks):
            if table.checks[label].truth(row) is False:
                return label
    return None
