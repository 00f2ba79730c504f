"""Stores as lists of statements."""

from partwise.statements import run
from partwise.store import Store
from partwise.texts import value_text


def dump(store):
    """Statements that make an equal store out of an empty one."""
    statements = []
    waiting = list(store.tops)
    while waiting:
        name = waiting.pop()
        statements.append(_table_text(store, name))
        waiting.extend(store.parts_of(name))
    for name in store.names:
        checks = store.checks_of(name)
        statements.extend([f"check {name} {label} {checks[label]}" for label in checks])
        statements.extend([" ".join(["key", name, *columns]) for columns in store.keys_of(name)])
        if store.cut_of(name) is None and store.count_rows(name) > 0:
            statements.append(_rows_text(store, name))
    return statements


def load(statements):
    """The store that the statements make out of an empty one."""
    store = Store()
    for statement in statements:
        run(store, statement)
    return store


def _table_text(store, name):
    """The statement that makes the table, without rows, checks and keys."""
    cut = store.cut_of(name)
    words = [] if cut is None else [cut.text]
    if store.parent_of(name) is not None:
        return " ".join(["part", name, "of", store.parent_of(name), store.bound_of(name).text] + words)
    fields = [_field_text(column) for column in store.schema_of(name).columns]
    return " ".join(["create", name] + fields + words)


def _field_text(column):
    return f"{column.name}:{column.kind}!" if column.is_required else f"{column.name}:{column.kind}"


def _rows_text(store, name):
    """The statement that puts the rows of a leaf into it."""
    rows = [" ".join([value_text(value) for value in row]) for row in store.rows_of(name)]
    return f"insert {name} " + " / ".join(rows)
