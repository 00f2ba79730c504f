"""Which rows the bounds of parts hold.

The bound of a part is looked at together with those of the other parts of its
table, for what a default part holds depends on them.
"""

from partwise.bounds import Default
from partwise.literals import need_of
from partwise.places import ends_of


def ends_of_columns(schema):
    """The least and the greatest place of each column."""
    return {column.name: ends_of(column.kind) for column in schema.columns}


def does_fit(schema, cut, bound):
    """Whether the bound fits the cut of the schema."""
    return bound.fits(cut.kind, tuple([schema[name].kind for name in cut.columns]))


def held_need(schema, cut, bound, others):
    """What a row needs for its key to be held by the bound of a part."""
    return _need(schema, cut, bound, others, True)


def unheld_need(schema, cut, bound, others):
    """What a row needs for its key not to be held by the bound of a part."""
    return _need(schema, cut, bound, others, False)


def _need(schema, cut, bound, others, is_held):
    ends = ends_of_columns(schema)
    if not isinstance(bound, Default):
        return need_of(bound.key_tree(cut.columns), "true" if is_held else "not true", ends)
    trees = tuple([other.key_tree(cut.columns) for other in others if not isinstance(other, Default)])
    return need_of(("or", trees), "not true" if is_held else "true", ends)


def is_held(schema, cut, bound, others, row):
    """Whether the bound of a part holds the key of the row."""
    key = tuple([row[schema.names.index(name)] for name in cut.columns])
    if not isinstance(bound, Default):
        return key in bound
    return not any([key in other for other in others if not isinstance(other, Default)])
