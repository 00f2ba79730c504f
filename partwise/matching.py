"""Conditions of questions, with the values of their parameters."""

from partwise.conditions import Condition, are_parameters
from partwise.errors import InvalidParameters
from partwise.formulas import truth_of
from partwise.grammar import PARAMETERS
from partwise.holding import ends_of_columns
from partwise.literals import ALWAYS, need_of
from partwise.places import place_of


class Match:
    """A condition, or the empty text, with values of its parameters or for all of them."""

    def __init__(self, schema, tree, kinds, given):
        self.shape = schema
        self.where_tree = tree
        self.kinds = kinds
        # The places of the parameters' values; None if they may have all values.
        self.given = given

    def need(self, asked):
        """What a row needs for the condition to be as asked, as need_of takes it."""
        return need_of(self.where_tree, asked, ends_of_columns(self.shape))

    def is_joint(self):
        """Whether what matches depends on values of parameters that are not given."""
        return self.given is None and len(self.kinds) > 0

    def selected(self, rows):
        """Those of the rows for which the condition is True with the given parameters."""
        return [row for row in rows if self._is_true(row)]

    def rejected(self, rows):
        """The others of the rows."""
        return [row for row in rows if not self._is_true(row)]

    def _is_true(self, row):
        return truth_of(self.where_tree, self._places(row)) is True

    def _places(self, row):
        places = {name: place_of(value) for name, value in zip(self.shape.names, row)}
        for name, place in zip(PARAMETERS, self.given):
            places[name] = place
        return places


def read_match(schema, where, parameters):
    """The match of any values for these."""
    condition = _read_condition(schema, where)
    kinds = () if condition is None else condition.parameters
    if not isinstance(parameters, (list, tuple)) or not are_parameters(parameters, kinds):
        raise InvalidParameters()
    return _match(schema, condition, [place_of(value) for value in parameters])


def read_open_match(schema, where, parameters):
    """As read_match; parameters that are None stand for all values of them."""
    if parameters is not None:
        return read_match(schema, where, parameters)
    return _match(schema, _read_condition(schema, where), None)


def _read_condition(schema, where):
    """The condition with this text, None if it is empty."""
    return None if where == "" else Condition(schema, where)


def _match(schema, condition, given):
    if condition is None:
        return Match(schema, ALWAYS, (), given)
    return Match(schema, condition.formula, condition.parameters, given)
