"""Leaves that are split and merged. Each call returns the new tables and the number of rows with another leaf."""

from partwise.bounds import Bound, Default
from partwise.cuts import least_cut_key
from partwise.errors import (
    Gap, InvalidBound, InvalidPieces, LeafFull, NotLeaf, NotSiblings, Outside, Overlap, OwnChecks, TooMany,
)
from partwise.forest import Table, held_by_part, is_held_by_part, part_names, replaced, unheld_by_part
from partwise.holding import does_fit
from partwise.limits import MAX_PARTS, MAX_TABLES
from partwise.shaping import check_bound, check_new_name, do_overlap, find_part


def split_part_in(tables, name, pieces):
    old = _find_leaf(tables, name)
    if not _are_pieces(pieces):
        raise InvalidPieces()
    others = {other: tables[other] for other in tables if other != name}
    _check_piece_names(others, pieces)
    parent = tables[old.parent]
    for _, bound in pieces:
        check_bound(parent, bound)
        if isinstance(bound, Default) and not isinstance(old.bound, Default):
            raise InvalidBound()
    if len(others) + len(pieces) > MAX_TABLES:
        raise TooMany(MAX_TABLES)
    if len(part_names(others, old.parent)) + len(pieces) > MAX_PARTS:
        raise TooMany(MAX_PARTS)
    _check_piece_overlaps(parent, pieces)
    leaves = [_new_leaf(old, piece, bound) for piece, bound in pieces]
    after = replaced(others, leaves)
    _check_same_keys(tables, [name], after, [piece for piece, _ in pieces])
    filled = []
    for leaf in leaves:
        filled.append(leaf.filled([row for row in old.rows if is_held_by_part(after, leaf.name, row)]))
    moved = sum([len(leaf.rows) for leaf in filled if leaf.name != name])
    return replaced(after, filled), moved


def merge_parts_in(tables, names, name, bound, most):
    for old in names:
        _find_leaf(tables, old)
    parents = [tables[old].parent for old in names]
    if len(set(parents)) != 1 or len(set(names)) != len(names):
        raise NotSiblings()
    for old in names:
        if tables[old].checks:
            raise OwnChecks(old)
    others = {other: tables[other] for other in tables if other not in names}
    check_new_name(others, name)
    parent = tables[parents[0]]
    is_default = any([isinstance(tables[old].bound, Default) for old in names])
    if not does_fit(parent.schema, parent.cut, bound) or isinstance(bound, Default) != is_default:
        raise InvalidBound()
    leaf = Table(name, parent.schema, None).placed(parent.name, bound)
    after = replaced(others, [leaf])
    _check_same_keys(tables, names, after, [name])
    rows = [row for old in names for row in tables[old].rows]
    if most is not None and len(rows) > most:
        raise LeafFull(name)
    moved = sum([len(tables[old].rows) for old in names if old != name])
    return replaced(after, [leaf.filled(rows)]), moved


def _find_leaf(tables, name):
    table = find_part(tables, name)
    if table.cut is not None:
        raise NotLeaf(name)
    return table


def _are_pieces(pieces):
    """Whether any value is a list of tuples of any value and a bound."""
    if not isinstance(pieces, (list, tuple)) or not pieces:
        return False
    if not all([isinstance(piece, tuple) and len(piece) == 2 for piece in pieces]):
        return False
    return all([isinstance(bound, Bound) for _, bound in pieces])


def _check_piece_names(others, pieces):
    taken = list(others)
    for name, _ in pieces:
        check_new_name(taken, name)
        taken.append(name)


def _check_piece_overlaps(parent, pieces):
    """Raises Overlap for the first piece that holds a key of an earlier one."""
    for at, (name, bound) in enumerate(pieces):
        if any([do_overlap(parent, earlier, bound) for _, earlier in pieces[:at]]):
            raise Overlap(name)


def _new_leaf(old, name, bound):
    return Table(name, old.schema, None).placed(old.parent, bound).checked(old.checks)


def _check_same_keys(before, old_names, after, new_names):
    """Raises Outside or Gap unless the new parts hold the keys of the old ones together."""
    parent = before[before[old_names[0]].parent]
    needs = [unheld_by_part(before, name) for name in old_names]
    needs.append(("or", tuple([held_by_part(after, name) for name in new_names])))
    key = least_cut_key(parent.schema, parent.cut, needs)
    if key is not None:
        raise Outside(key)
    needs = [unheld_by_part(after, name) for name in new_names]
    needs.append(("or", tuple([held_by_part(before, name) for name in old_names])))
    key = least_cut_key(parent.schema, parent.cut, needs)
    if key is not None:
        raise Gap(key)
