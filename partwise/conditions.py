"""Conditions over the rows of a schema."""

from partwise.errors import InvalidParameters, InvalidRow, InvalidText, OtherSchema
from partwise.formulas import formula_of, truth_of
from partwise.grammar import PARAMETERS, read_text
from partwise.places import place_of
from partwise.words import is_number, is_word


class Condition:
    """A text that is True, False or None (unknown) for each row of its schema."""

    def __init__(self, schema, text):
        fault, kinds = read_text(schema, text)
        if fault is not None:
            raise InvalidText(fault)
        self._schema = schema
        self._text = text
        self._parameters = kinds
        self._formula = formula_of(text)

    @property
    def schema(self):
        return self._schema

    @property
    def text(self):
        return self._text

    @property
    def parameters(self):
        return self._parameters

    @property
    def formula(self):
        """The tree of the text, as in partwise.formulas."""
        return self._formula

    def truth(self, row, *parameters):
        """True, False or None for the row, with a value for each parameter."""
        if not self._schema.is_row(row):
            raise InvalidRow(row)
        if not are_parameters(parameters, self._parameters):
            raise InvalidParameters()
        places = {name: place_of(value) for name, value in zip(self._schema.names, row)}
        given = {name: place_of(value) for name, value in zip(PARAMETERS, parameters)}
        return truth_of(self._formula, {**places, **given})

    def __eq__(self, other):
        return isinstance(other, Condition) and self._schema == other._schema and self._text == other._text

    def __and__(self, other):
        if self._schema != other.schema:
            raise OtherSchema()
        return Condition(self._schema, f"( {self._text} ) and ( {other.text} )")

    def __or__(self, other):
        if self._schema != other.schema:
            raise OtherSchema()
        return Condition(self._schema, f"( {self._text} ) or ( {other.text} )")

    def __invert__(self):
        return Condition(self._schema, f"not ( {self._text} )")


def are_parameters(values, kinds):
    """Whether the list of any values has one for each kind, of this kind or None."""
    if len(values) != len(kinds):
        return False
    return all([_is_of_kind(value, kind) for value, kind in zip(values, kinds)])


def _is_of_kind(value, kind):
    if value is None:
        return True
    return is_number(value) if kind == "number" else is_word(value)
