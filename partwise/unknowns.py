"""What the conditions of a question have in common: their schema and their unknowns."""

from partwise.errors import InvalidParameters, OtherSchema
from partwise.grammar import PARAMETERS
from partwise.literals import need_of
from partwise.places import ends_of
from partwise.search import Problem


def kinds_of(schema, conditions):
    """The kinds of the columns, by their names, and of the parameters of the conditions.

    Raises OtherSchema(), then InvalidParameters(), if they do not go together.
    """
    for condition in conditions:
        if condition.schema != schema:
            raise OtherSchema()
    kinds = {column.name: column.kind for column in schema.columns}
    for condition in conditions:
        for name, kind in zip(PARAMETERS, condition.parameters):
            if kinds.setdefault(name, kind) != kind:
                raise InvalidParameters()
    return kinds


def required_of(schema):
    """The names of the columns that are never None."""
    return [column.name for column in schema.columns if column.is_required]


def wishes_of(true, kept):
    """The conditions, each with what is asked of it: to be true, or not false."""
    return [(condition, "true") for condition in true] + [(condition, "not false") for condition in kept]


def problem_of(schema, wishes):
    """The problem to find places with which each condition is as asked."""
    kinds = kinds_of(schema, [wish[0] for wish in wishes])
    ends = {name: ends_of(kinds[name]) for name in kinds}
    needs = [need_of(condition.formula, asked, ends) for condition, asked in wishes]
    return Problem(ends, required_of(schema), needs)
