"""The errors of the package.

Each is directly below an error of Python, is made from its fields, and keeps
them as attributes.
"""

# An error without fields has an __init__ too: Python's own one would take any
# number of arguments.


class InvalidName(ValueError):
    """A value is not a name."""

    def __init__(self, value):
        self.value = value


class InvalidKind(ValueError):
    """A value is not the kind of a column."""

    def __init__(self, value):
        self.value = value


class InvalidSchema(ValueError):
    """Not one to five columns with different names."""

    def __init__(self):
        pass


class InvalidText(ValueError):
    """A text is wrong at the word with this index."""

    def __init__(self, index):
        self.index = index


class InvalidRow(ValueError):
    """A value is not a row of the schema."""

    def __init__(self, value):
        self.value = value


class InvalidParameters(ValueError):
    """Not one value of its kind, or None, for each parameter."""

    def __init__(self):
        pass


class InvalidBound(ValueError):
    """Not a bound, or one that does not fit the cut."""

    def __init__(self):
        pass


class InvalidCut(ValueError):
    """Not a cut, or one that the schema does not allow."""

    def __init__(self):
        pass


class InvalidKey(ValueError):
    """A key without a column, or with one twice."""

    def __init__(self):
        pass


class InvalidChange(ValueError):
    """A column cannot be changed in this way."""

    def __init__(self, column):
        self.column = column


class InvalidLimit(ValueError):
    """A value is not a limit."""

    def __init__(self, value):
        self.value = value


class InvalidJoin(ValueError):
    """Tables cannot be joined in this way."""

    def __init__(self):
        pass


class InvalidPieces(ValueError):
    """Not a list of the pieces of a part."""

    def __init__(self):
        pass


class InvalidStatement(ValueError):
    """A value is not a statement."""

    def __init__(self):
        pass


class OtherSchema(ValueError):
    """A condition belongs to another schema."""

    def __init__(self):
        pass


class SchemaDiffers(ValueError):
    """A table cannot be a part of one with another schema."""

    def __init__(self):
        pass


class NotCut(ValueError):
    """The table is not cut."""

    def __init__(self, table):
        self.table = table


class NotTop(ValueError):
    """The table is a part."""

    def __init__(self, table):
        self.table = table


class NotPart(ValueError):
    """The table is not a part."""

    def __init__(self, table):
        self.table = table


class NotLeaf(ValueError):
    """The table is cut."""

    def __init__(self, table):
        self.table = table


class NotSiblings(ValueError):
    """Not different parts of one parent."""

    def __init__(self):
        pass


class OwnChecks(ValueError):
    """The table has checks of its own."""

    def __init__(self, table):
        self.table = table


class HasKeys(ValueError):
    """The table has keys."""

    def __init__(self, table):
        self.table = table


class TableExists(ValueError):
    """There is a table of this name."""

    def __init__(self, table):
        self.table = table


class CheckExists(ValueError):
    """The table has a check of this label."""

    def __init__(self, label):
        self.label = label


class KeyExists(ValueError):
    """The table has a key with these columns."""

    def __init__(self):
        pass


class KeyTooSmall(ValueError):
    """A key lacks this column of a cut."""

    def __init__(self, column):
        self.column = column


class Overlap(ValueError):
    """This part holds a key that another one holds, too."""

    def __init__(self, part):
        self.part = part


class Outside(ValueError):
    """A new part holds this key, the old ones do not."""

    def __init__(self, key):
        self.key = key


class Gap(ValueError):
    """The old parts hold this key, no new one does."""

    def __init__(self, key):
        self.key = key


class NotHeld(ValueError):
    """A bound does not hold the key of this row."""

    def __init__(self, row):
        self.row = row


class InDefault(ValueError):
    """The default part has this row, whose key a bound holds."""

    def __init__(self, row):
        self.row = row


class CheckFails(ValueError):
    """The check of this label is False for the row."""

    def __init__(self, label, row):
        self.label = label
        self.row = row


class DuplicateKey(ValueError):
    """Another row has the key of this row."""

    def __init__(self, row):
        self.row = row


class UnknownColumn(KeyError):
    """A value is not a column."""

    def __init__(self, value):
        self.value = value


class UnknownTable(KeyError):
    """A value is not the name of a table."""

    def __init__(self, value):
        self.value = value


class UnknownCheck(KeyError):
    """The table has no check of this label."""

    def __init__(self, label):
        self.label = label


class UnknownKey(KeyError):
    """The table has no key with these columns."""

    def __init__(self):
        pass


class NoPart(LookupError):
    """The row belongs to no leaf."""

    def __init__(self, row):
        self.row = row


class NothingToUndo(LookupError):
    """There is no step to take back."""

    def __init__(self):
        pass


class NothingToRedo(LookupError):
    """There is no step to do again."""

    def __init__(self):
        pass


class TooMany(OverflowError):
    """There would be more than this limit."""

    def __init__(self, limit):
        self.limit = limit


class LeafFull(OverflowError):
    """The leaf would hold too many rows."""

    def __init__(self, table):
        self.table = table


class Stale(RuntimeError):
    """The plan of a prepared question is out of date."""

    def __init__(self):
        pass
