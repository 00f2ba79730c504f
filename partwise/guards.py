"""Checks and keys of tables. Each change returns the new tables and what the call returns."""

from partwise.conditions import Condition
from partwise.doubts import doubted_leaves, rows_in
from partwise.errors import (
    CheckExists, CheckFails, DuplicateKey, InvalidKey, InvalidName, InvalidText, KeyExists, NotTop, TooMany,
    UnknownCheck, UnknownColumn, UnknownKey,
)
from partwise.forest import check_need, find_table, replaced, rows_below
from partwise.grammar import PARAMETERS, read_text
from partwise.limits import MAX_CHECKS, MAX_KEYS
from partwise.shaping import check_key_columns
from partwise.uniques import least_duplicate
from partwise.words import is_name


def add_check_in(tables, name, label, text):
    table = find_table(tables, name)
    if not is_name(label):
        raise InvalidName(label)
    if label in table.checks:
        raise CheckExists(label)
    check_plain_text(table.schema, text)
    if len(table.checks) >= MAX_CHECKS:
        raise TooMany(MAX_CHECKS)
    check = Condition(table.schema, text)
    rows = rows_in(tables, doubted_leaves(tables, name, check_need(check, "false")))
    for row in rows:
        if check.truth(row) is False:
            raise CheckFails(label, row)
    checks = dict(table.checks)
    checks[label] = check
    return replaced(tables, [table.checked(checks)]), len(rows)


def check_plain_text(schema, text):
    """Raises InvalidText unless any value is the text of a condition without parameters."""
    fault = read_text(schema, text, PARAMETERS)[0]
    if fault is not None:
        raise InvalidText(fault)


def drop_check_in(tables, name, label):
    table = find_table(tables, name)
    if not isinstance(label, str) or label not in table.checks:
        raise UnknownCheck(label)
    checks = {other: table.checks[other] for other in table.checks if other != label}
    return replaced(tables, [table.checked(checks)]), None


def add_key_in(tables, name, columns):
    table = find_table(tables, name)
    if table.parent is not None:
        raise NotTop(name)
    for column in columns:
        if column not in table.schema.names:
            raise UnknownColumn(column)
    if not columns or len(set(columns)) != len(columns):
        raise InvalidKey()
    check_key_columns(tables, name, columns)
    if _same_key(table, columns) is not None:
        raise KeyExists()
    if len(table.uniques) >= MAX_KEYS:
        raise TooMany(MAX_KEYS)
    rows = rows_below(tables, name)
    duplicate = least_duplicate(table.schema, [columns], rows, rows)
    if duplicate is not None:
        raise DuplicateKey(duplicate)
    return replaced(tables, [table.keyed(table.uniques + (columns,))]), None


def drop_key_in(tables, name, columns):
    table = find_table(tables, name)
    dropped = _same_key(table, columns)
    if dropped is None:
        raise UnknownKey()
    uniques = tuple([other for other in table.uniques if other != dropped])
    return replaced(tables, [table.keyed(uniques)]), None


def _same_key(table, columns):
    """The key of the table that has any values as its columns, in any order; None if none has."""
    for other in table.uniques:
        if len(columns) == len(other) and all([name in columns for name in other]):
            return other
    return None
