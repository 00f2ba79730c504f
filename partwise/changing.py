"""Rows that are added, deleted and changed."""

from partwise.doubts import check_uniques, rows_in
from partwise.errors import CheckFails, DuplicateKey, InvalidChange, InvalidRow, LeafFull, NoPart
from partwise.forest import failing_check, find_table, leaf_for, leaf_names, leaf_needs, replaced, rows_below, top_of
from partwise.matching import read_match, read_open_match
from partwise.orders import sorted_rows
from partwise.places import place_of
from partwise.plans import matching_leaves
from partwise.scenes import OTHER, Scene, same_need
from partwise.uniques import key_of
from partwise.words import is_number


def add_rows_in(tables, name, rows, most):
    """The new tables and the number of rows."""
    schema = find_table(tables, name).schema
    top = top_of(tables, name)
    stored = rows_below(tables, top.name) if top.uniques else []
    seen = [_keys_of_rows(schema, columns, stored) for columns in top.uniques]
    added = {}
    for row in rows:
        if not schema.is_row(row):
            raise InvalidRow(row)
        leaf = _leaf_of_new_row(tables, name, row)
        for columns, taken in zip(top.uniques, seen):
            key = key_of(schema, columns, row)
            if key in taken:
                raise DuplicateKey(row)
            if key is not None:
                taken[key] = True
        added.setdefault(leaf, []).append(row)
    return _filled(tables, {leaf: list(tables[leaf].rows) + added[leaf] for leaf in added}, most), len(rows)


def _keys_of_rows(schema, columns, rows):
    keys = {key_of(schema, columns, row): True for row in rows}
    return {key: True for key in keys if key is not None}


def _leaf_of_new_row(tables, name, row):
    """The leaf of the table into which the row goes, if no check of it is False."""
    leaf = leaf_for(tables, name, row)
    if leaf is None:
        raise NoPart(row)
    label = failing_check(tables, leaf, row)
    if label is not None:
        raise CheckFails(label, row)
    return leaf


def _filled(tables, rows_of_leaves, most):
    """The tables with these rows in these leaves, each with at most so many (None: any number)."""
    for leaf in sorted(rows_of_leaves):
        if most is not None and len(rows_of_leaves[leaf]) > most:
            raise LeafFull(leaf)
    return replaced(tables, [tables[leaf].filled(rows_of_leaves[leaf]) for leaf in rows_of_leaves])


def delete_rows_in(tables, name, where, parameters):
    """The new tables, the number of rows, and the leaves that are looked at."""
    match = read_match(find_table(tables, name).schema, where, parameters)
    leaves = matching_leaves(tables, name, match)
    changed = []
    for leaf in leaves:
        kept = match.rejected(tables[leaf].rows)
        changed.append(tables[leaf].filled(kept))
    after = replaced(tables, changed)
    return after, len(rows_in(tables, leaves)) - len(rows_in(after, leaves)), leaves


def change_rows_in(tables, name, where, parameters, changes, most):
    """The new tables, the number of rows, and the leaves that are looked at."""
    schema = find_table(tables, name).schema
    match = read_match(schema, where, parameters)
    _check_changes(schema, changes)
    leaves = matching_leaves(tables, name, match)
    kept = {leaf: match.rejected(tables[leaf].rows) for leaf in leaves}
    new_rows = [_changed_row(schema, row, changes) for row in match.selected(rows_in(tables, leaves))]
    for row in new_rows:
        if not schema.is_row(row):
            raise InvalidRow(row)
        leaf = _leaf_of_new_row(tables, name, row)
        kept.setdefault(leaf, list(tables[leaf].rows)).append(row)
    check_uniques(_filled(tables, kept, None), name, sorted_rows(new_rows))
    return _filled(tables, kept, most), len(new_rows), leaves


def _check_changes(schema, changes):
    for name in changes:
        # A column that is not there is an error of the schema.
        column = schema[name]
        if not column.is_value(changes[name]) and not (column.kind == "number" and _is_addition(changes[name])):
            raise InvalidChange(name)


def _is_addition(value):
    """Whether any value says how much is added to a number."""
    return isinstance(value, tuple) and len(value) == 2 and value[0] == "add" and is_number(value[1])


def _changed_row(schema, row, changes):
    values = []
    for name, value in zip(schema.names, row):
        change = changes.get(name, value)
        if _is_addition(change):
            change = None if value is None else value + change[1]
        values.append(change)
    return tuple(values)


def moves_in(tables, name, where, parameters, changes):
    """The pairs of leaves between which the changes move possible rows, ascending."""
    schema = find_table(tables, name).schema
    match = read_open_match(schema, where, parameters)
    _check_changes(schema, changes)
    needs = {leaf: leaf_needs(tables, leaf) for leaf in leaf_names(tables, name)}
    found = []
    for leaf in matching_leaves(tables, name, match):
        for other in needs:
            if _can_move(schema, needs[leaf], needs[other], match, changes):
                found.append((leaf, other))
    return tuple(found)


def _can_move(schema, needs, other_needs, match, changes):
    """Whether the changes make a row that meets the needs and is matched one that meets the others."""
    scene = Scene()
    scene.add_row(schema, {}, needs + [match.need("true")])
    scene.add_parameters(match, {})
    names = {}
    for column in schema.columns:
        if column.name in changes:
            names[column.name] = OTHER + column.name
    scene.add_row(schema, names, other_needs)
    for name in names:
        _relate(scene, name, names[name], changes[name])
    return not scene.is_empty()


def _relate(scene, old, new, change):
    """What the value of a column becomes by a change."""
    if _is_addition(change):
        both_null = ("and", (("null", old), ("null", new)))
        scene.needs.append(("or", (both_null, same_need(old, new, change[1]))))
    else:
        scene.settle(new, place_of(change))
