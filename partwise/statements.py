"""Statements, which do by a text what a method of a store does.

Each action takes the store and the words behind the first one. It reads all words
before it calls the method.
"""

from partwise.clauses import (
    check_form, cut_at, groups_of, read_bound, read_changes, read_cut, read_field, read_limit, read_name, read_names,
    read_one_name, read_order, read_piece, read_row, read_where,
)
from partwise.columns import Schema
from partwise.errors import InvalidStatement
from partwise.guards import check_plain_text
from partwise.texts import value_text


def run(store, text):
    """Does a statement; returns a text."""
    if not isinstance(text, str):
        raise InvalidStatement()
    words = text.split(" ")
    if "" in words or words[0] not in ACTIONS:
        raise InvalidStatement()
    action = ACTIONS[words[0]]
    return action(store, words[1:])


def _result(value):
    """What a method returned, as a text."""
    return "ok" if value is None else str(value)


def _line(values):
    return " ".join([value_text(value) for value in values])


def _check_where(store, name, where):
    """Raises the errors of the table and of the condition, in which parameters are wrong."""
    schema = store.schema_of(name)
    if where != "":
        check_plain_text(schema, where)


def _create(store, words):
    fields, cut_words = cut_at(words, "by")
    check_form(len(fields) > 1)
    name = read_name(fields[0])
    columns = [read_field(word) for word in fields[1:]]
    cut = read_cut(cut_words)
    return _result(store.create(name, Schema(*columns), cut))


def _part(store, words):
    check_form(len(words) > 3 and words[1] == "of")
    name, parent = read_name(words[0]), read_name(words[2])
    bound_words, cut_words = cut_at(words[3:], "by")
    bound, cut = read_bound(bound_words), read_cut(cut_words)
    return _result(store.create_part(name, parent, bound, cut))


def _drop(store, words):
    return _result(store.drop(read_one_name(words)))


def _check(store, words):
    check_form(len(words) > 2)
    name, label = read_name(words[0]), read_name(words[1])
    return _result(store.add_check(name, label, " ".join(words[2:])))


def _uncheck(store, words):
    check_form(len(words) == 2)
    name, label = read_name(words[0]), read_name(words[1])
    return _result(store.drop_check(name, label))


def _key(store, words):
    check_form(len(words) > 1)
    name, *columns = read_names(words)
    return _result(store.add_key(name, *columns))


def _unkey(store, words):
    check_form(len(words) > 1)
    name, *columns = read_names(words)
    return _result(store.drop_key(name, *columns))


def _insert(store, words):
    check_form(len(words) > 0)
    name = read_name(words[0])
    rows = [read_row(group) for group in groups_of(words[1:])]
    return _result(store.add_rows(name, rows))


def _delete(store, words):
    words, where = read_where(words)
    name = read_one_name(words)
    _check_where(store, name, where)
    return _result(store.delete_rows(name, where))


def _update(store, words):
    words, where = read_where(words)
    check_form(len(words) > 1 and words[1] == "set")
    name = read_name(words[0])
    changes = read_changes(words[2:])
    _check_where(store, name, where)
    return _result(store.change_rows(name, where, (), **changes))


def _ask(store, words):
    words, where = read_where(words)
    words, limit_words = cut_at(words, "limit")
    words, order_words = cut_at(words, "order")
    words, column_words = cut_at(words, "columns")
    name = read_one_name(words)
    columns = None if column_words is None else read_names(column_words)
    order, limit = read_order(order_words), read_limit(limit_words)
    _check_where(store, name, where)
    rows = store.ask(name, where, columns=columns, order=order, limit=limit)
    return "\n".join([_line(row) for row in rows])


def _count(store, words):
    words, where = read_where(words)
    words, column_words = cut_at(words, "by")
    name = read_one_name(words)
    columns = [] if column_words is None else read_names(column_words)
    _check_where(store, name, where)
    groups = store.count_groups(name, where, by=columns)
    return "\n".join([_line([*group, groups[group]]) for group in groups])


def _least(store, words):
    return _extreme(store, words, False)


def _greatest(store, words):
    return _extreme(store, words, True)


def _extreme(store, words, is_greatest):
    words, where = read_where(words)
    check_form(len(words) == 2)
    name, column = read_names(words)
    _check_where(store, name, where)
    return value_text(store.extreme(name, column, where, is_greatest=is_greatest))


def _looked(store, words):
    check_form(not words)
    return " ".join(store.looked)


def _attach(store, words):
    check_form(len(words) > 3 and words[1] == "to")
    name, parent = read_name(words[0]), read_name(words[2])
    return _result(store.attach(name, parent, read_bound(words[3:])))


def _detach(store, words):
    return _result(store.detach(read_one_name(words)))


def _split(store, words):
    check_form(len(words) > 2 and words[1] == "into")
    name = read_name(words[0])
    pieces = [read_piece(group) for group in groups_of(words[2:])]
    return _result(store.split_part(name, pieces))


def _merge(store, words):
    words, behind = cut_at(words, "into")
    check_form(behind is not None)
    names = read_names(words)
    name, bound = read_piece(behind)
    return _result(store.merge_parts(names, name, bound))


def _rebound(store, words):
    name, bound = read_piece(words)
    return _result(store.rebound(name, bound))


def _undo(store, words):
    check_form(not words)
    return _result(store.undo())


def _redo(store, words):
    check_form(not words)
    return _result(store.redo())


ACTIONS = {
    "create": _create,
    "part": _part,
    "drop": _drop,
    "check": _check,
    "uncheck": _uncheck,
    "key": _key,
    "unkey": _unkey,
    "insert": _insert,
    "delete": _delete,
    "update": _update,
    "ask": _ask,
    "count": _count,
    "least": _least,
    "greatest": _greatest,
    "looked": _looked,
    "attach": _attach,
    "detach": _detach,
    "split": _split,
    "merge": _merge,
    "rebound": _rebound,
    "undo": _undo,
    "redo": _redo,
}
