"""Leaves that hold rows of which something is not certain, and the rows that they hold."""

from partwise.bounds import Default
from partwise.errors import DuplicateKey, InDefault, NotHeld
from partwise.forest import is_held_by_part, leaf_names, leaf_needs, part_names, rows_below, top_of
from partwise.holding import held_need
from partwise.orders import sorted_rows
from partwise.scenes import Scene
from partwise.uniques import least_duplicate


def doubted_leaves(tables, name, need):
    """The leaves of a table in which a possible row meets the need."""
    schema = tables[name].schema
    found = []
    for leaf in leaf_names(tables, name):
        scene = Scene()
        scene.add_row(schema, {}, leaf_needs(tables, leaf) + [need])
        if not scene.is_empty():
            found.append(leaf)
    return found


def rows_in(tables, leaves):
    """All rows of the leaves, ascending."""
    return sorted_rows([row for leaf in leaves for row in tables[leaf].rows])


def leaves_in_default(tables, parent, name, bound):
    """The leaves of the default part of a table in which the bound of another part holds a possible row."""
    table = tables[parent]
    need = held_need(table.schema, table.cut, bound, [])
    defaults = [part for part in part_names(tables, parent) if isinstance(tables[part].bound, Default)]
    return [leaf for part in defaults if part != name for leaf in doubted_leaves(tables, part, need)]


def check_in_default(tables, part, rows):
    """Raises InDefault for the first of the rows of a default part that this part holds."""
    for row in rows:
        if is_held_by_part(tables, part, row):
            raise InDefault(row)


def check_held(tables, parts, rows):
    """Raises NotHeld for the first of the rows that one of these parts does not hold."""
    for row in rows:
        if not all([is_held_by_part(tables, part, row) for part in parts]):
            raise NotHeld(row)


def check_uniques(tables, name, rows):
    """Raises DuplicateKey for the first of the rows of a top table whose key another one has."""
    top = top_of(tables, name)
    duplicate = least_duplicate(top.schema, top.uniques, rows_below(tables, top.name), rows)
    if duplicate is not None:
        raise DuplicateKey(duplicate)
