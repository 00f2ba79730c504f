"""Changes of the tree of tables. Each returns the new tables and what the call returns."""

from partwise.bounds import Default
from partwise.cuts import overlap
from partwise.doubts import (
    check_held, check_in_default, check_uniques, doubted_leaves, leaves_in_default, rows_in,
)
from partwise.errors import (
    CheckFails, HasKeys, InvalidBound, InvalidCut, InvalidName, KeyTooSmall, NotCut, NotPart, NotTop, Overlap,
    SchemaDiffers, TableExists, TooMany, UnknownColumn,
)
from partwise.forest import (
    Table, check_need, find_table, line_of, names_below, part_names, replaced, rows_below, top_of, unheld_by_part,
)
from partwise.holding import does_fit
from partwise.limits import MAX_CUTS, MAX_PARTS, MAX_TABLES
from partwise.words import is_name


def create_in(tables, name, schema, cut):
    _check_new(tables, name, schema, cut)
    return replaced(tables, [Table(name, schema, cut)]), None


def create_part_in(tables, name, parent, bound, cut):
    above = find_table(tables, parent)
    if above.cut is None:
        raise NotCut(parent)
    _check_new(tables, name, above.schema, cut)
    part = Table(name, above.schema, cut).placed(parent, bound)
    after = replaced(tables, [part])
    check_bound(above, bound)
    _check_places(after, name)
    check_overlap(after, name)
    _check_key_columns(after, name)
    doubted = rows_in(tables, leaves_in_default(tables, parent, name, bound))
    check_in_default(after, name, doubted)
    return after, len(doubted)


def drop_in(tables, name):
    find_table(tables, name)
    gone = names_below(tables, name)
    return {other: tables[other] for other in tables if other not in gone}, None


def attach_in(tables, name, parent, bound):
    table = find_table(tables, name)
    if table.parent is not None:
        raise NotTop(name)
    above = find_table(tables, parent)
    if above.cut is None:
        raise NotCut(parent)
    if table.uniques:
        raise HasKeys(name)
    if table.schema != above.schema or parent in names_below(tables, name):
        raise SchemaDiffers()
    check_bound(above, bound)
    after = replaced(tables, [table.placed(parent, bound)])
    _check_places(after, name)
    check_overlap(after, name)
    _check_key_columns(after, name)
    doubted = rows_in(tables, doubted_leaves(tables, name, _misfit_need(after, name)))
    check_held(after, [part.name for part in line_of(after, name)], doubted)
    _check_checks_above(after, name, doubted)
    others = rows_in(tables, leaves_in_default(tables, parent, name, bound))
    check_in_default(after, name, others)
    check_uniques(after, name, rows_below(after, name))
    return after, len(doubted) + len(others)


def detach_in(tables, name):
    table = find_part(tables, name)
    return replaced(tables, [table.placed(None, None)]), None


def rebound_in(tables, name, bound):
    table = find_part(tables, name)
    check_bound(tables[table.parent], bound)
    after = replaced(tables, [table.placed(table.parent, bound)])
    check_overlap(after, name)
    doubted = rows_in(tables, doubted_leaves(tables, name, unheld_by_part(after, name)))
    check_held(after, [name], doubted)
    others = rows_in(tables, leaves_in_default(tables, table.parent, name, bound))
    check_in_default(after, name, others)
    return after, len(doubted) + len(others)


def find_part(tables, name):
    """The part with any value as its name."""
    table = find_table(tables, name)
    if table.parent is None:
        raise NotPart(name)
    return table


def check_new_name(names, name):
    """Raises an error unless any value is a name and not among these."""
    if not is_name(name):
        raise InvalidName(name)
    if name in names:
        raise TableExists(name)


def check_bound(table, bound):
    """Raises InvalidBound unless the bound fits the cut of the table."""
    if not does_fit(table.schema, table.cut, bound):
        raise InvalidBound()


def check_overlap(tables, name):
    """Raises Overlap for the first other part whose bound holds a key that this one holds, too."""
    table = tables[name]
    for part in part_names(tables, table.parent):
        other = tables[part]
        if part != name and do_overlap(tables[table.parent], table.bound, other.bound):
            raise Overlap(part)


def do_overlap(parent, one, other):
    """Whether two bounds cannot both be those of parts of a table."""
    if isinstance(one, Default) or isinstance(other, Default):
        return one == other
    return overlap(parent.schema, parent.cut, one, other) is not None


def _check_new(tables, name, schema, cut):
    check_new_name(tables, name)
    if len(tables) >= MAX_TABLES:
        raise TooMany(MAX_TABLES)
    if cut is None:
        return
    for column in cut.columns:
        if column not in schema.names:
            raise UnknownColumn(column)
    if cut.kind == "rest" and schema[cut.columns[0]].kind != "number":
        raise InvalidCut()


def _check_places(after, name):
    """Raises TooMany if a new part has too many others beside it, or cuts above a cut."""
    if len(part_names(after, after[name].parent)) > MAX_PARTS:
        raise TooMany(MAX_PARTS)
    for below in names_below(after, name):
        if after[below].cut is not None and len(line_of(after, below)) > MAX_CUTS:
            raise TooMany(MAX_CUTS)


def _check_key_columns(after, name):
    """Raises KeyTooSmall if a key lacks a column of a cut of the table or below it."""
    for columns in top_of(after, name).uniques:
        check_key_columns(after, name, columns)


def check_key_columns(tables, name, columns):
    """Raises KeyTooSmall if the key lacks a column of a cut of the table or below it."""
    for below in names_below(tables, name):
        cut = tables[below].cut
        for column in [] if cut is None else cut.columns:
            if column not in columns:
                raise KeyTooSmall(column)


def _misfit_need(after, name):
    """The need that a row cannot be in a new part, by the bounds from it up or the checks above it."""
    line = line_of(after, name)
    needs = [unheld_by_part(after, table.name) for table in line if table.parent is not None]
    for table in line[:-1]:
        needs.extend([check_need(check, "false") for check in table.checks.values()])
    return ("or", tuple(needs))


def _check_checks_above(after, name, rows):
    """Raises CheckFails for the first check above the table that is False for one of the rows."""
    for table in line_of(after, name)[:-1]:
        for label in sorted(table.checks):
            for row in rows:
                if table.checks[label].truth(row) is False:
                    raise CheckFails(label, row)
