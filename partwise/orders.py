"""The order of values and of rows."""

from partwise.errors import UnknownColumn
from partwise.places import place_of


def rank(value):
    """What the values of a column are ordered by."""
    return (value is not None, 0 if value is None else value)


def row_rank(row):
    """What tuples of values are ordered by."""
    return tuple([rank(value) for value in row])


def sorted_rows(rows):
    """The tuples of values in their order, as a list."""
    return sorted(rows, key=row_rank)


def place_rank(place, is_down):
    """What the places of the values of a column are ordered by; None for None."""
    if place is None:
        return (is_down, 0)
    return (not is_down, -place if is_down else place)


def read_order(schema, order):
    """The entries of an order as pairs of a column's name and whether it goes down."""
    entries = []
    for entry in order:
        is_down = isinstance(entry, tuple) and len(entry) == 2 and entry[1] == "down"
        name = entry[0] if is_down else entry
        if name not in schema.names:
            raise UnknownColumn(entry)
        entries.append((name, is_down))
    return entries


def full_order(schema, entries):
    """The entries that decide, each column once; those that are not named follow."""
    full = {}
    for name, is_down in entries + [(name, False) for name in schema.names]:
        full.setdefault(name, is_down)
    return list(full.items())


def ordered_rows(schema, entries, rows):
    """The rows in the order of the entries, as a list."""
    full = [(schema.names.index(name), is_down) for name, is_down in full_order(schema, entries)]
    return sorted(rows, key=lambda row: _order_rank(full, row))


def _order_rank(full, row):
    return tuple([place_rank(place_of(row[at]), is_down) for at, is_down in full])
