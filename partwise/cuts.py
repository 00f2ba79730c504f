"""Cuts, which say by which columns a table is cut into parts."""

from partwise.bounds import Default
from partwise.errors import InvalidBound, InvalidCut, UnknownColumn
from partwise.holding import does_fit, ends_of_columns, held_need, unheld_need
from partwise.limits import MAX_RANGE_COLUMNS
from partwise.places import value_at
from partwise.search import Problem, least_places
from partwise.unknowns import required_of
from partwise.words import is_name

# The greatest number of columns, by kinds.
COLUMN_LIMITS = {"range": MAX_RANGE_COLUMNS, "values": 1, "rest": 1}


class Cut:
    """A kind of bounds, and the columns whose values they bound."""

    def __init__(self, kind, *columns):
        if not _make_up_cut(kind, columns):
            raise InvalidCut()
        self._kind = kind
        self._columns = columns

    @property
    def kind(self):
        return self._kind

    @property
    def columns(self):
        return self._columns

    @property
    def text(self):
        return " ".join(["by", self._kind, *self._columns])

    def __eq__(self, other):
        return isinstance(other, Cut) and self._kind == other._kind and self._columns == other._columns


def _make_up_cut(kind, columns):
    """Whether any value and a tuple of any values make up a cut."""
    if not isinstance(kind, str) or kind not in COLUMN_LIMITS:
        return False
    if not 1 <= len(columns) <= COLUMN_LIMITS[kind] or not all([is_name(name) for name in columns]):
        return False
    return len(set(columns)) == len(columns)


def overlap(schema, cut, one, other):
    """The least key that both bounds hold, or None."""
    _check_bounds(schema, cut, [one, other])
    return least_cut_key(schema, cut, [held_need(schema, cut, one, []), held_need(schema, cut, other, [])])


def gap(schema, cut, bounds):
    """The least key that none of the bounds holds, or None."""
    _check_bounds(schema, cut, bounds)
    return least_cut_key(schema, cut, [unheld_need(schema, cut, bound, []) for bound in bounds])


def least_cut_key(schema, cut, needs):
    """The least key of a row of the schema that meets the needs, or None."""
    places = least_places(Problem(ends_of_columns(schema), required_of(schema), needs), cut.columns)
    if places is None:
        return None
    return tuple([value_at(schema[name].kind, place) for name, place in zip(cut.columns, places)])


def _check_bounds(schema, cut, bounds):
    for name in cut.columns:
        if name not in schema.names:
            raise UnknownColumn(name)
    for bound in bounds:
        if isinstance(bound, Default) or not does_fit(schema, cut, bound):
            raise InvalidBound()
