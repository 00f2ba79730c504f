"""Which rows conditions allow."""

from partwise.errors import UnknownColumn
from partwise.places import value_at
from partwise.search import greatest_places, least_places
from partwise.unknowns import problem_of, wishes_of


def possible(schema, true=(), kept=()):
    """The least row for which each of true is True and none of kept is False, or None."""
    problem = problem_of(schema, wishes_of(true, kept))
    return _values(schema, schema.names, least_places(problem, schema.names))


def least_key(schema, columns, true=(), kept=()):
    """The least tuple of the values of the columns over all such rows, or None."""
    _check_columns(schema, columns)
    problem = problem_of(schema, wishes_of(true, kept))
    return _values(schema, columns, least_places(problem, columns))


def greatest_key(schema, columns, true=(), kept=()):
    """The greatest tuple of the values of the columns over all such rows, or None."""
    _check_columns(schema, columns)
    problem = problem_of(schema, wishes_of(true, kept))
    return _values(schema, columns, greatest_places(problem, columns))


def follows(condition, kept=()):
    """Whether the condition is True for every row for which none of kept is False."""
    wishes = [(condition, "not true")] + wishes_of((), kept)
    return least_places(problem_of(condition.schema, wishes), ()) is None


def _check_columns(schema, columns):
    for name in columns:
        if name not in schema.names:
            raise UnknownColumn(name)


def _values(schema, columns, places):
    if places is None:
        return None
    return tuple([value_at(schema[name].kind, place) for name, place in zip(columns, places)])
