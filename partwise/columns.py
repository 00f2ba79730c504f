"""The columns of a table, and the schema that they make up."""

from partwise.errors import InvalidKind, InvalidName, InvalidSchema, UnknownColumn
from partwise.limits import MAX_COLUMNS
from partwise.words import is_name, is_number, is_word

KINDS = ("number", "word")


class Column:
    """A name, the kind of the values, and whether None is excluded."""

    def __init__(self, name, kind, *, is_required=False):
        if not is_name(name):
            raise InvalidName(name)
        if kind not in KINDS:
            raise InvalidKind(kind)
        self._name = name
        self._kind = kind
        self._is_required = is_required

    @property
    def name(self):
        return self._name

    @property
    def kind(self):
        return self._kind

    @property
    def is_required(self):
        return self._is_required

    def is_value(self, value):
        """Whether any value may stand in this column."""
        if value is None:
            return not self._is_required
        if self._kind == "number":
            return is_number(value)
        return is_word(value)

    def __eq__(self, other):
        return (
            isinstance(other, Column)
            and self._name == other._name
            and self._kind == other._kind
            and self._is_required == other._is_required
        )


class Schema:
    """The columns of a table, in their order."""

    def __init__(self, *columns):
        if not _make_up_schema(columns):
            raise InvalidSchema()
        self._columns = columns

    @property
    def columns(self):
        return self._columns

    @property
    def names(self):
        return tuple([column.name for column in self._columns])

    def is_row(self, value):
        """Whether any value is a tuple with a value of each column."""
        if not isinstance(value, tuple) or len(value) != len(self._columns):
            return False
        return all([column.is_value(entry) for column, entry in zip(self._columns, value)])

    def __eq__(self, other):
        return isinstance(other, Schema) and self._columns == other._columns

    def __len__(self):
        return len(self._columns)

    def __getitem__(self, at):
        for column in self._columns:
            if column.name == at:
                return column
        raise UnknownColumn(at)

    # Without this method, Python would iterate by asking for the items 0, 1, ..
    def __iter__(self):
        raise TypeError("a schema is not iterated over: take its columns")


def _make_up_schema(columns):
    """Whether the tuple of any values holds the columns of a schema."""
    if not 1 <= len(columns) <= MAX_COLUMNS:
        return False
    if not all([isinstance(column, Column) for column in columns]):
        return False
    return len({column.name for column in columns}) == len(columns)
