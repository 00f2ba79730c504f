"""Questions about the rows of one table.

Those that look at leaves return what was asked for and the leaves.
"""

from partwise.doubts import rows_in
from partwise.errors import InvalidLimit, UnknownColumn
from partwise.forest import find_table, leaf_names, leaf_needs
from partwise.matching import read_match, read_open_match
from partwise.orders import ordered_rows, read_order, row_rank
from partwise.places import value_at
from partwise.plans import are_separate, matching_leaves, matching_scene, runs_of, whole_leaves
from partwise.scenes import Scene


def ask_in(tables, name, where, parameters, columns, order, limit):
    schema = find_table(tables, name).schema
    match = read_match(schema, where, parameters)
    columns = schema.names if columns is None else columns
    check_columns(schema, columns)
    entries = read_order(schema, order)
    check_limit(limit)
    rows = []
    looked = []
    if limit != 0:
        for run in runs_of(tables, matching_leaves(tables, name, match), match, entries):
            rows.extend(match.selected(rows_in(tables, run)))
            looked.extend(run)
            if limit is not None and len(rows) >= limit:
                break
    rows = ordered_rows(schema, entries, rows)
    if limit is not None:
        rows = rows[:limit]
    return _chosen(schema, columns, rows), looked


def check_columns(schema, columns):
    """Raises UnknownColumn for the first of any values that is not a column."""
    for column in columns:
        if column not in schema.names:
            raise UnknownColumn(column)


def check_limit(limit):
    """Raises InvalidLimit unless any value is None or a number of rows."""
    if limit is None:
        return
    if isinstance(limit, bool) or not isinstance(limit, int) or limit < 0:
        raise InvalidLimit(limit)


def _chosen(schema, columns, rows):
    """The values of the columns in each row."""
    places = [schema.names.index(name) for name in columns]
    return [tuple([row[at] for at in places]) for row in rows]


def plan_for_in(tables, name, where, parameters, order):
    """The leaves, the whole ones among them, and the runs."""
    schema = find_table(tables, name).schema
    match = read_open_match(schema, where, parameters)
    entries = read_order(schema, order)
    leaves = matching_leaves(tables, name, match)
    return tuple(leaves), tuple(whole_leaves(tables, leaves, match)), runs_of(tables, leaves, match, entries)


def count_groups_in(tables, name, where, parameters, by):
    schema = find_table(tables, name).schema
    match = read_match(schema, where, parameters)
    check_columns(schema, by)
    leaves = matching_leaves(tables, name, match)
    counts = {}
    for group in _chosen(schema, by, match.selected(rows_in(tables, leaves))):
        counts[group] = counts.get(group, 0) + 1
    return {group: counts[group] for group in sorted(counts, key=row_rank)}, leaves


def is_separate_in(tables, name, by, where, parameters):
    schema = find_table(tables, name).schema
    match = read_open_match(schema, where, parameters)
    check_columns(schema, by)
    return are_separate(tables, matching_leaves(tables, name, match), match, by)


def extreme_in(tables, name, column, where, parameters, is_greatest):
    schema = find_table(tables, name).schema
    match = read_match(schema, where, parameters)
    check_columns(schema, [column])
    at = schema.names.index(column)
    best = None
    looked = []
    for value, leaf in _extremes(tables, name, match, column, is_greatest):
        if best is not None and (value <= best if is_greatest else value >= best):
            break
        looked.append(leaf)
        values = [row[at] for row in match.selected(tables[leaf].rows) if row[at] is not None]
        if values and best is not None:
            values.append(best)
        if values:
            best = max(values) if is_greatest else min(values)
    return best, looked


def _extremes(tables, name, match, column, is_greatest):
    """The possible leaves with their least or greatest values of the column, in the order of these."""
    kind = tables[name].schema[column].kind
    found = []
    for leaf in leaf_names(tables, name):
        scene = matching_scene(tables, leaf, match)
        scene.needs.append(("some", column))
        places = scene.greatest([column]) if is_greatest else scene.least([column])
        if places is not None:
            found.append((-places[0] if is_greatest else places[0], leaf, value_at(kind, places[0])))
    return [(value, leaf) for _, leaf, value in sorted(found)]


def possible_row_in(tables, name):
    """The least row that is possible in a leaf of the table, or None."""
    schema = find_table(tables, name).schema
    rows = []
    for leaf in leaf_names(tables, name):
        scene = Scene()
        scene.add_row(schema, {}, leaf_needs(tables, leaf))
        places = scene.least(schema.names)
        if places is not None:
            rows.append(tuple([value_at(column.kind, place) for column, place in zip(schema.columns, places)]))
    return min(rows, key=row_rank, default=None)
