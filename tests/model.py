"""A second, slow reading of sections 5 to 11: a store that tries out all rows.

It shares no code with the package but its columns, schemas and errors. Each top
table must have a check that leaves only rows of few values (see `box`): what is
possible is found by trying all of these. Bounds are kept as their texts, cuts as
lists of words.
"""

import copy
import functools
import itertools

from partwise import errors
from tests import keys, plain, recognizer
from tests.keys import fits, holds
from tests.plain import order
from tests.samples import RESERVED

NUMBERS = (0, 1, 2, 3, 4)
WORDS = ("a", "b", "c")
# Values of parameters: all that a condition over the values above may tell apart.
PARAMETERS = {"number": (None, -1, 0, 1, 2, 3, 4, 5), "word": (None, "a", "aa", "b", "bb", "c", "cc")}


def box(schema):
    """The text of a check that leaves only rows of few values."""
    texts = []
    for column in schema.columns:
        values = "0 1 2 3 4" if column.kind == "number" else "'a 'b 'c"
        text = f"{column.name} in ( {values} )"
        texts.append(text if column.is_required else f"( {column.name} is null or {text} )")
    return " and ".join(texts)


def is_name(value):
    return (
        isinstance(value, str) and 1 <= len(value) <= 8
        and all("a" <= letter <= "z" for letter in value) and value not in RESERVED
    )


def is_integer(value):
    return isinstance(value, int) and not isinstance(value, bool)


class Text:
    """What the second reading of conditions asks of a condition."""

    def __init__(self, schema, text):
        self.schema = schema
        self.text = text


def signature(schema):
    return tuple((column.name, column.kind, column.is_required) for column in schema.columns)


class Sketch:
    """What a schema is, for functions that keep their results."""

    def __init__(self, columns):
        self.names = tuple(name for name, _, _ in columns)


@functools.lru_cache(maxsize=None)
def all_rows(columns):
    values = [
        (NUMBERS if kind == "number" else WORDS) + (() if is_required else (None,))
        for _, kind, is_required in columns
    ]
    return sorted(itertools.product(*values), key=order)


@functools.lru_cache(maxsize=100000)
def truth(columns, text, row, parameters):
    return text == "" or plain.truth(Text(Sketch(columns), text), row, parameters)


@functools.lru_cache(maxsize=None)
def parameter_kinds(columns, text):
    if text == "":
        return ()
    kinds = {name: kind for name, kind, _ in columns}
    found = {}
    for atom in plain.split_text(text)[0]:
        if atom.get("operand", "").startswith("$"):
            found[atom["operand"]] = kinds[atom["name"]]
    return tuple(found[name] for name in sorted(found))


@functools.lru_cache(maxsize=None)
def fault_of(columns, text, barred):
    """The index of the first wrong word, None if there is none."""
    kinds = {name: kind for name, kind, _ in columns}
    words = text.split(" ")
    for at, word in enumerate(words):
        if (barred and word.startswith("$")) or not recognizer.begins(kinds, words[:at + 1]):
            return at
    if not recognizer.is_text(kinds, words):
        return len(words)
    numbers = {word for word in words if word.startswith("$")}
    return None if numbers == {f"${k}" for k in range(1, len(numbers) + 1)} else len(words)


@functools.lru_cache(maxsize=None)
def possible_rows(columns, levels):
    """The rows that bounds and checks allow, level by level: cut columns, bound, others, checks."""
    names = [name for name, _, _ in columns]
    found = []
    for row in all_rows(columns):
        for cut_columns, bound, others, checks in levels:
            key = tuple(row[names.index(name)] for name in cut_columns)
            if bound is not None and not holds(bound, others, key):
                break
            if any(truth(columns, check, row, ()) is False for check in checks):
                break
        else:
            found.append(row)
    return found


class Leaf:
    """A table of the model, cut or not."""

    def __init__(self, schema, cut, parent=None, bound=None):
        self.schema = schema
        self.cut = cut
        self.parent = parent
        self.bound = bound
        self.checks = {}
        self.uniques = []
        self.rows = []

    def twin(self):
        twin = copy.copy(self)
        twin.checks, twin.uniques, twin.rows = dict(self.checks), list(self.uniques), list(self.rows)
        return twin


class Model:
    def __init__(self, limit=None):
        self.tables = {}
        self.looked = ()
        self.done = []
        self.undone = []
        self.limit = limit
        self.counts = {}

    # Tables.

    def find(self, name):
        if not isinstance(name, str) or name not in self.tables:
            raise errors.UnknownTable(name)
        return self.tables[name]

    def parts(self, name):
        return sorted(part for part, table in self.tables.items() if table.parent == name)

    def below(self, name):
        return sorted([name] + [below for part in self.parts(name) for below in self.below(part)])

    def leaves(self, name):
        return [below for below in self.below(name) if self.tables[below].cut is None]

    def line(self, name):
        parent = self.tables[name].parent
        return ([] if parent is None else self.line(parent)) + [name]

    def others(self, name):
        parent = self.tables[name].parent
        return tuple(self.tables[part].bound for part in self.parts(parent) if part != name)

    def rows_of(self, name):
        self.find(name)
        return sorted((row for leaf in self.leaves(name) for row in self.tables[leaf].rows), key=order)

    def key(self, name, row):
        """The key of the row by the cut of the table above this one."""
        table = self.tables[name]
        cut = self.tables[table.parent].cut
        return tuple(row[table.schema.names.index(column)] for column in cut[1:])

    def is_held(self, name, row):
        table = self.tables[name]
        return table.parent is None or holds(table.bound, self.others(name), self.key(name, row))

    def possible(self, leaf):
        levels = []
        for name in self.line(leaf):
            table = self.tables[name]
            others = () if table.parent is None else self.others(name)
            columns = () if table.parent is None else tuple(self.tables[table.parent].cut[1:])
            levels.append((columns, table.bound, others, tuple(sorted(table.checks.values()))))
        return possible_rows(signature(self.tables[leaf].schema), tuple(levels))

    def doubted(self, name, is_wrong):
        """All rows of the leaves in which a possible row is wrong, ascending."""
        leaves = [leaf for leaf in self.leaves(name) if any(is_wrong(row) for row in self.possible(leaf))]
        return sorted((row for leaf in leaves for row in self.tables[leaf].rows), key=order)

    def leaf_for(self, name, row):
        if not all(self.is_held(above, row) for above in self.line(name)):
            return None
        found = [
            leaf for leaf in self.leaves(name) if all(self.is_held(above, row) for above in self.line(leaf))
        ]
        assert len(found) < 2
        return found[0] if found else None

    def least_key(self, parent, texts, is_wanted):
        table = self.tables[parent]
        return keys.least_key(table.schema, table.cut[1:], texts, is_wanted)

    # Steps.

    def snapshot(self):
        return {name: table.twin() for name, table in self.tables.items()}

    def step(self, method, *arguments, **named):
        """Calls one of the methods of point 95."""
        before, looked = self.snapshot(), self.looked
        try:
            result = getattr(self, method)(*arguments, **named)
        except Exception:
            self.tables, self.looked = before, looked
            raise
        self.done.append(before)
        self.undone = []
        self.counts[method] = self.counts.get(method, 0) + 1
        return result

    def undo(self):
        if not self.done:
            raise errors.NothingToUndo()
        self.undone.append(self.snapshot())
        self.tables = self.done.pop()

    def redo(self):
        if not self.undone:
            raise errors.NothingToRedo()
        self.done.append(self.snapshot())
        self.tables = self.undone.pop()

    def in_work(self, action):
        kept = self.snapshot(), self.done, self.undone
        self.done, self.undone = [], []
        try:
            result = action(self)
        except Exception:
            self.tables, self.done, self.undone = kept
            raise
        if self.done:
            self.done, self.undone = kept[1] + [kept[0]], []
        else:
            self.done, self.undone = kept[1:]
        return result

    # Section 5.

    def check_new(self, name, schema, cut):
        if not is_name(name):
            raise errors.InvalidName(name)
        if name in self.tables:
            raise errors.TableExists(name)
        if len(self.tables) == 40:
            raise errors.TooMany(40)
        if cut:
            for column in cut[1:]:
                if column not in schema.names:
                    raise errors.UnknownColumn(column)
            if cut[0] == "rest" and schema[cut[1]].kind == "word":
                raise errors.InvalidCut()

    def create(self, name, schema, cut=None):
        self.check_new(name, schema, cut)
        self.tables[name] = Leaf(schema, cut)

    def check_bound(self, parent, bound):
        table = self.tables[parent]
        if not fits(table.schema, table.cut[0], table.cut[1:], bound):
            raise errors.InvalidBound()

    def check_places(self, name):
        if len(self.parts(self.tables[name].parent)) > 6:
            raise errors.TooMany(6)
        for leaf in self.below(name):
            if self.tables[leaf].cut and len(self.line(leaf)) > 3:
                raise errors.TooMany(3)

    def do_overlap(self, parent, one, other):
        if "default" in (one, other):
            return one == other
        texts = [one, other]
        return self.least_key(parent, texts, lambda key: all(holds(text, [], key) for text in texts)) is not None

    def check_overlap(self, name):
        table = self.tables[name]
        for part in self.parts(table.parent):
            if part != name and self.do_overlap(table.parent, table.bound, self.tables[part].bound):
                raise errors.Overlap(part)

    def check_key_columns(self, name, columns):
        for below in self.below(name):
            for column in (self.tables[below].cut or [None])[1:]:
                if column not in columns:
                    raise errors.KeyTooSmall(column)

    def place(self, name, table):
        """Puts a table into the tree."""
        self.tables[name] = table
        self.check_places(name)
        self.check_overlap(name)
        for columns in self.tables[self.line(name)[0]].uniques:
            self.check_key_columns(name, columns)

    def possible_in(self, parts):
        """The possible rows of the leaves below these parts, by the leaves."""
        return {leaf: self.possible(leaf) for part in parts for leaf in self.leaves(part)}

    def default_parts(self, parent, name):
        return [part for part in self.parts(parent) if part != name and self.tables[part].bound == "default"]

    def in_default(self, name, bound, possible):
        """The number of rows that are looked at in the default part, with the rows that were possible there."""
        if bound == "default":
            return 0
        leaves = [
            leaf for leaf, rows in possible.items() if any(holds(bound, [], self.key(name, row)) for row in rows)
        ]
        rows = sorted((row for leaf in leaves for row in self.tables[leaf].rows), key=order)
        for row in rows:
            if holds(bound, [], self.key(name, row)):
                raise errors.InDefault(row)
        return len(rows)

    def create_part(self, name, parent, bound, cut=None):
        above = self.find(parent)
        if not above.cut:
            raise errors.NotCut(parent)
        self.check_new(name, above.schema, cut)
        self.check_bound(parent, bound)
        possible = self.possible_in(self.default_parts(parent, name))
        self.place(name, Leaf(above.schema, cut, parent, bound))
        return self.in_default(name, bound, possible)

    def drop(self, name):
        self.find(name)
        for below in self.below(name):
            del self.tables[below]

    def possible_row(self, name):
        self.find(name)
        rows = [row for leaf in self.leaves(name) for row in self.possible(leaf)]
        return min(rows, key=order, default=None)

    def leaf_of(self, name, row):
        if not self.find(name).schema.is_row(row):
            raise errors.InvalidRow(row)
        leaf = self.leaf_for(name, row)
        if leaf is None:
            raise errors.NoPart(row)
        return leaf

    def truth(self, schema, text, row, parameters=()):
        return truth(signature(schema), text, row, tuple(parameters))

    def check_text(self, schema, text, barred=False):
        fault = fault_of(signature(schema), text, barred) if isinstance(text, str) else 0
        if fault is not None:
            raise errors.InvalidText(fault)

    def add_check(self, name, label, text):
        table = self.find(name)
        if not is_name(label):
            raise errors.InvalidName(label)
        if label in table.checks:
            raise errors.CheckExists(label)
        self.check_text(table.schema, text, True)
        if len(table.checks) == 2:
            raise errors.TooMany(2)
        rows = self.doubted(name, lambda row: self.truth(table.schema, text, row) is False)
        for row in self.rows_of(name):
            if self.truth(table.schema, text, row) is False:
                assert row in rows
                raise errors.CheckFails(label, row)
        table.checks[label] = text
        return len(rows)

    def drop_check(self, name, label):
        table = self.find(name)
        if not isinstance(label, str) or label not in table.checks:
            raise errors.UnknownCheck(label)
        del table.checks[label]

    def key_of(self, schema, columns, row):
        values = tuple(row[schema.names.index(column)] for column in columns)
        return None if None in values else values

    def check_unique(self, top, uniques, rows):
        table = self.tables[top]
        everything = self.rows_of(top)
        for row in sorted(rows, key=order):
            for columns in uniques:
                key = self.key_of(table.schema, columns, row)
                if key and [self.key_of(table.schema, columns, other) for other in everything].count(key) > 1:
                    raise errors.DuplicateKey(row)

    def add_key(self, name, *columns):
        table = self.find(name)
        if table.parent is not None:
            raise errors.NotTop(name)
        for column in columns:
            if column not in table.schema.names:
                raise errors.UnknownColumn(column)
        if not columns or len(set(columns)) < len(columns):
            raise errors.InvalidKey()
        self.check_key_columns(name, columns)
        if sorted(columns) in [sorted(other) for other in table.uniques]:
            raise errors.KeyExists()
        if len(table.uniques) == 2:
            raise errors.TooMany(2)
        self.check_unique(name, [columns], self.rows_of(name))
        table.uniques.append(columns)

    def drop_key(self, name, *columns):
        table = self.find(name)
        for other in table.uniques:
            if len(other) == len(columns) and all(column in columns for column in other):
                table.uniques.remove(other)
                return
        raise errors.UnknownKey()

    # Section 6.

    def new_leaf(self, name, row):
        """The leaf into which a new row goes."""
        leaf = self.leaf_for(name, row)
        if leaf is None:
            raise errors.NoPart(row)
        for above in self.line(leaf):
            for label, text in sorted(self.tables[above].checks.items()):
                if self.truth(self.tables[above].schema, text, row) is False:
                    raise errors.CheckFails(label, row)
        return leaf

    def check_full(self):
        for name in sorted(self.tables):
            if self.limit is not None and len(self.tables[name].rows) > self.limit:
                raise errors.LeafFull(name)

    def add_rows(self, name, rows):
        table = self.find(name)
        top = self.line(name)[0]
        uniques = self.tables[top].uniques
        for row in rows:
            if not table.schema.is_row(row):
                raise errors.InvalidRow(row)
            leaf = self.new_leaf(name, row)
            for columns in uniques:
                key = self.key_of(table.schema, columns, row)
                if key and key in [self.key_of(table.schema, columns, other) for other in self.rows_of(top)]:
                    raise errors.DuplicateKey(row)
            self.tables[leaf].rows.append(row)
        self.check_full()
        return len(rows)

    def read_where(self, schema, where, parameters, may_be_open=False):
        """The kinds of the parameters."""
        if where != "":
            self.check_text(schema, where)
        kinds = parameter_kinds(signature(schema), where)
        if may_be_open and parameters is None:
            return kinds
        if not isinstance(parameters, (list, tuple)) or len(parameters) != len(kinds):
            raise errors.InvalidParameters()
        for value, kind in zip(parameters, kinds):
            right = value is None or (is_integer(value) and abs(value) <= 10 ** 30)
            if kind == "word":
                right = value is None or recognizer.re.fullmatch("[a-z]{1,8}", str(value)) and value == str(value)
            if not right:
                raise errors.InvalidParameters()
        return kinds

    def choices(self, schema, where, parameters):
        """The values of the parameters that come into question."""
        kinds = parameter_kinds(signature(schema), where)
        if parameters is not None:
            return [tuple(parameters)]
        return list(itertools.product(*[PARAMETERS[kind] for kind in kinds]))

    def matches(self, schema, where, parameters, rows):
        return [row for row in rows if self.truth(schema, where, row, parameters) is True]

    def matching(self, name, where, parameters):
        """For each choice of the parameters: the matching possible rows, by leaves."""
        schema = self.tables[name].schema
        return [
            {leaf: self.matches(schema, where, choice, self.possible(leaf)) for leaf in self.leaves(name)}
            for choice in self.choices(schema, where, parameters)
        ]

    def matching_leaves(self, name, where, parameters):
        found = self.matching(name, where, parameters)
        return [leaf for leaf in self.leaves(name) if any(rows[leaf] for rows in found)]

    def delete_rows(self, name, where="", parameters=()):
        table = self.find(name)
        self.read_where(table.schema, where, parameters)
        self.looked = tuple(self.matching_leaves(name, where, parameters))
        count = 0
        for leaf in self.leaves(name):
            rows = self.tables[leaf].rows
            gone = self.matches(table.schema, where, parameters, rows)
            self.tables[leaf].rows = [row for row in rows if row not in gone]
            count += len(gone)
        return count

    def check_changes(self, schema, changes):
        for column, value in changes.items():
            if column not in schema.names:
                raise errors.UnknownColumn(column)
            is_addition = (
                isinstance(value, tuple) and len(value) == 2 and value[0] == "add"
                and is_integer(value[1]) and abs(value[1]) <= 10 ** 30 and schema[column].kind == "number"
            )
            if not is_addition and not schema[column].is_value(value):
                raise errors.InvalidChange(column)

    def changed(self, schema, row, changes):
        values = []
        for name, value in zip(schema.names, row):
            if name in changes:
                change = changes[name]
                if isinstance(change, tuple):
                    value = None if value is None else value + change[1]
                else:
                    value = change
            values.append(value)
        return tuple(values)

    def change_rows(self, name, where="", parameters=(), **changes):
        table = self.find(name)
        self.read_where(table.schema, where, parameters)
        self.check_changes(table.schema, changes)
        self.looked = tuple(self.matching_leaves(name, where, parameters))
        old_rows = self.matches(table.schema, where, parameters, self.rows_of(name))
        new_rows = [self.changed(table.schema, row, changes) for row in old_rows]
        for row in new_rows:
            if not table.schema.is_row(row):
                raise errors.InvalidRow(row)
            self.new_leaf(name, row)
        for row in old_rows:
            self.tables[self.leaf_for(name, row)].rows.remove(row)
        for row in new_rows:
            self.tables[self.leaf_for(name, row)].rows.append(row)
        top = self.line(name)[0]
        self.check_unique(top, self.tables[top].uniques, new_rows)
        self.check_full()
        return len(new_rows)

    def moves(self, name, where="", parameters=None, **changes):
        table = self.find(name)
        self.read_where(table.schema, where, parameters, True)
        self.check_changes(table.schema, changes)
        found = set()
        for matching in self.matching(name, where, parameters):
            for leaf, rows in matching.items():
                new_rows = {self.changed(table.schema, row, changes) for row in rows}
                found |= {(leaf, other) for other in self.leaves(name) if new_rows & set(self.possible(other))}
        return tuple(sorted(found))

    # Section 7.

    def read_order(self, schema, entries):
        found = []
        for entry in entries:
            is_down = isinstance(entry, tuple) and len(entry) == 2 and entry[1] == "down"
            column = entry[0] if is_down else entry
            if column not in schema.names:
                raise errors.UnknownColumn(entry)
            found.append((column, is_down))
        return found

    def sorted(self, schema, entries, rows):
        """The rows in order, by one sorting for each entry, the last one first."""
        rows = sorted(rows, key=order)
        for column, is_down in reversed(entries):
            at = schema.names.index(column)
            rows.sort(key=lambda row: order(row[at:at + 1]), reverse=is_down)
        return rows

    def runs(self, name, where, parameters, entries):
        schema = self.tables[name].schema
        leaves = self.matching_leaves(name, where, parameters)
        behind = {leaf: set() for leaf in leaves}
        for matching in self.matching(name, where, parameters):
            places = {}
            for at, row in enumerate(self.sorted(schema, entries, {r for rows in matching.values() for r in rows})):
                places[row] = at
            for one, other in itertools.permutations(leaves, 2):
                if matching[one] and matching[other]:
                    if max(places[r] for r in matching[one]) > min(places[r] for r in matching[other]):
                        behind[one].add(other)
        return least_runs(leaves, behind)

    def check_columns(self, schema, columns):
        for column in columns:
            if column not in schema.names:
                raise errors.UnknownColumn(column)

    def check_limit(self, limit):
        if limit is not None and not (is_integer(limit) and limit >= 0):
            raise errors.InvalidLimit(limit)

    def ask(self, name, where="", parameters=(), *, columns=None, order=(), limit=None):
        schema = self.find(name).schema
        self.read_where(schema, where, parameters)
        self.check_columns(schema, columns or ())
        entries = self.read_order(schema, order)
        self.check_limit(limit)
        rows = self.sorted(schema, entries, self.matches(schema, where, parameters, self.rows_of(name)))
        found = 0
        looked = []
        for run in self.runs(name, where, parameters, entries):
            if limit is not None and found >= limit:
                break
            looked += run
            for leaf in run:
                found += len(self.matches(schema, where, parameters, self.tables[leaf].rows))
        self.looked = tuple(looked)
        names = schema.names if columns is None else columns
        return [tuple(row[schema.names.index(column)] for column in names) for row in rows][:limit]

    def plan_for(self, name, where="", parameters=None, *, order=()):
        schema = self.find(name).schema
        self.read_where(schema, where, parameters, True)
        entries = self.read_order(schema, order)
        leaves = self.matching_leaves(name, where, parameters)
        whole = [
            leaf for leaf in leaves
            if all(matching[leaf] == self.possible(leaf) for matching in self.matching(name, where, parameters))
        ]
        return tuple(leaves), tuple(whole), self.runs(name, where, parameters, entries)

    def count_groups(self, name, where="", parameters=(), *, by=()):
        schema = self.find(name).schema
        self.read_where(schema, where, parameters)
        self.check_columns(schema, by)
        self.looked = tuple(self.matching_leaves(name, where, parameters))
        counts = {}
        for row in self.matches(schema, where, parameters, self.rows_of(name)):
            key = tuple(row[schema.names.index(column)] for column in by)
            counts[key] = counts.get(key, 0) + 1
        return {key: counts[key] for key in sorted(counts, key=order)}

    def is_separate(self, name, by, where="", parameters=None):
        schema = self.find(name).schema
        self.read_where(schema, where, parameters, True)
        self.check_columns(schema, by)
        for matching in self.matching(name, where, parameters):
            groups = [
                {tuple(row[schema.names.index(column)] for column in by) for row in rows}
                for rows in matching.values()
            ]
            if any(one & other for one, other in itertools.combinations(groups, 2)):
                return False
        return True

    def extreme(self, name, column, where="", parameters=(), *, is_greatest=False):
        schema = self.find(name).schema
        self.read_where(schema, where, parameters)
        self.check_columns(schema, [column])
        best_of = max if is_greatest else min
        at = schema.names.index(column)
        (matching,) = self.matching(name, where, parameters)
        ends = {}
        for leaf, rows in matching.items():
            values = [row[at] for row in rows if row[at] is not None]
            if values:
                ends[leaf] = best_of(values)
        best = None
        looked = []
        for end in sorted(set(ends.values()), reverse=is_greatest):
            for leaf in sorted(leaf for leaf in ends if ends[leaf] == end):
                if best is not None and best_of(best, end) == best:
                    continue
                looked.append(leaf)
                rows = self.matches(schema, where, parameters, self.tables[leaf].rows)
                values = [row[at] for row in rows if row[at] is not None]
                if values:
                    best = best_of(values + ([] if best is None else [best]))
        self.looked = tuple(looked)
        rows = self.matches(schema, where, parameters, self.rows_of(name))
        result = best_of([row[at] for row in rows if row[at] is not None], default=None)
        assert result == best
        return result

    # Section 8.

    def check_on(self, one, other, on):
        if not on:
            raise errors.InvalidJoin()
        for first, second in on:
            self.check_columns(self.tables[one].schema, [first])
            self.check_columns(self.tables[other].schema, [second])
            if self.tables[one].schema[first].kind != self.tables[other].schema[second].kind:
                raise errors.InvalidJoin()

    def are_partners(self, one, other, on, row, match):
        pairs = [
            (row[self.tables[one].schema.names.index(first)], match[self.tables[other].schema.names.index(second)])
            for first, second in on
        ]
        return all(value is not None and value == same for value, same in pairs)

    def leaf_pairs(self, one, other, on, where, other_where, parameters, other_parameters):
        found = set()
        for matching in self.matching(one, where, parameters):
            for others in self.matching(other, other_where, other_parameters):
                for first, second in itertools.product(matching, others):
                    if (first, second) not in found and any(
                        self.are_partners(one, other, on, row, match)
                        for row in matching[first] for match in others[second]
                    ):
                        found.add((first, second))
        return tuple(sorted(found))

    def join_rows(
        self, one, other, on, *, kind="inner", where="", other_where="", parameters=(), other_parameters=()
    ):
        table, match = self.find(one), self.find(other)
        if kind not in ("inner", "left", "some", "none"):
            raise errors.InvalidJoin()
        self.check_on(one, other, on)
        self.read_where(table.schema, where, parameters)
        self.read_where(match.schema, other_where, other_parameters)
        looked = {
            leaf
            for pair in self.leaf_pairs(one, other, on, where, other_where, parameters, other_parameters)
            for leaf in pair
        }
        if kind in ("left", "none"):
            looked |= set(self.matching_leaves(one, where, parameters))
        self.looked = tuple(sorted(looked))
        others = self.matches(match.schema, other_where, other_parameters, self.rows_of(other))
        found = []
        for row in self.matches(table.schema, where, parameters, self.rows_of(one)):
            partners = [partner for partner in others if self.are_partners(one, other, on, row, partner)]
            if kind in ("inner", "left"):
                found += [row + partner for partner in partners]
            if kind == "left" and not partners:
                found.append(row + (None,) * len(match.schema.names))
            if (kind == "some" and partners) or (kind == "none" and not partners):
                found.append(row)
        return sorted(found, key=order)

    def pairs(self, one, other, on, *, where="", other_where="", parameters=None, other_parameters=None):
        table, match = self.find(one), self.find(other)
        self.check_on(one, other, on)
        self.read_where(table.schema, where, parameters, True)
        self.read_where(match.schema, other_where, other_parameters, True)
        return self.leaf_pairs(one, other, on, where, other_where, parameters, other_parameters)

    def is_partwise(self, *arguments, **named):
        found = self.pairs(*arguments, **named)
        return all(len({pair[side] for pair in found}) == len(found) for side in (0, 1))

    # Section 9.

    def attach(self, name, parent, bound):
        table = self.find(name)
        if table.parent is not None:
            raise errors.NotTop(name)
        above = self.find(parent)
        if not above.cut:
            raise errors.NotCut(parent)
        if table.uniques:
            raise errors.HasKeys(name)
        if signature(table.schema) != signature(above.schema) or parent in self.below(name):
            raise errors.SchemaDiffers()
        self.check_bound(parent, bound)
        part = table.twin()
        part.parent, part.bound = parent, bound
        possible = self.possible_in([name])
        defaults = self.possible_in(self.default_parts(parent, name))
        self.place(name, part)
        checks = [
            (label, text)
            for above in self.line(parent)
            for label, text in sorted(self.tables[above].checks.items())
        ]
        count = 0
        for leaf, rows in possible.items():
            if any(
                not all(self.is_held(above, row) for above in self.line(name))
                or any(self.truth(table.schema, text, row) is False for _, text in checks)
                for row in rows
            ):
                count += len(self.tables[leaf].rows)
        for row in self.rows_of(name):
            if not all(self.is_held(above, row) for above in self.line(name)):
                raise errors.NotHeld(row)
        for label, text in checks:
            for row in self.rows_of(name):
                if self.truth(table.schema, text, row) is False:
                    raise errors.CheckFails(label, row)
        count += self.in_default(name, bound, defaults)
        top = self.line(name)[0]
        self.check_unique(top, self.tables[top].uniques, self.rows_of(name))
        return count

    def find_part(self, name):
        table = self.find(name)
        if table.parent is None:
            raise errors.NotPart(name)
        return table

    def detach(self, name):
        table = self.find_part(name)
        table.parent = table.bound = None

    def rebound(self, name, bound):
        table = self.find_part(name)
        self.check_bound(table.parent, bound)
        possible = self.possible_in([name])
        defaults = self.possible_in(self.default_parts(table.parent, name))
        table.bound = bound
        self.check_overlap(name)
        count = sum(
            len(self.tables[leaf].rows)
            for leaf, rows in possible.items() if not all(self.is_held(name, row) for row in rows)
        )
        for row in self.rows_of(name):
            if not self.is_held(name, row):
                raise errors.NotHeld(row)
        return count + self.in_default(name, bound, defaults)

    def find_leaf(self, name):
        table = self.find_part(name)
        if table.cut:
            raise errors.NotLeaf(name)
        return table

    def check_new_name(self, name, taken):
        if not is_name(name):
            raise errors.InvalidName(name)
        if name in taken:
            raise errors.TableExists(name)

    def check_same(self, parent, old, new, siblings):
        """Compares the keys that two lists of bounds hold, each beside the siblings."""
        texts = [*old, *new, *siblings]
        held = [
            lambda key, bounds=bounds: any(holds(text, [*bounds, *siblings], key) for text in bounds)
            for bounds in (old, new)
        ]
        key = self.least_key(parent, texts, lambda key: held[1](key) and not held[0](key))
        if key is not None:
            raise errors.Outside(key)
        key = self.least_key(parent, texts, lambda key: held[0](key) and not held[1](key))
        if key is not None:
            raise errors.Gap(key)

    def split_part(self, name, pieces):
        table = self.find_leaf(name)
        if not isinstance(pieces, (list, tuple)) or not pieces:
            raise errors.InvalidPieces()
        if not all(isinstance(piece, tuple) and len(piece) == 2 and isinstance(piece[1], str) for piece in pieces):
            raise errors.InvalidPieces()
        taken = set(self.tables) - {name}
        for piece, _ in pieces:
            self.check_new_name(piece, taken)
            taken.add(piece)
        for _, bound in pieces:
            self.check_bound(table.parent, bound)
            if bound == "default" and table.bound != "default":
                raise errors.InvalidBound()
        if len(taken) > 40:
            raise errors.TooMany(40)
        if len(self.parts(table.parent)) - 1 + len(pieces) > 6:
            raise errors.TooMany(6)
        for at, (piece, bound) in enumerate(pieces):
            if any(self.do_overlap(table.parent, earlier, bound) for _, earlier in pieces[:at]):
                raise errors.Overlap(piece)
        self.check_same(table.parent, [table.bound], [bound for _, bound in pieces], self.others(name))
        del self.tables[name]
        for piece, bound in pieces:
            self.tables[piece] = Leaf(table.schema, None, table.parent, bound)
            self.tables[piece].checks = dict(table.checks)
        count = 0
        for row in table.rows:
            (piece,) = [piece for piece, _ in pieces if self.is_held(piece, row)]
            self.tables[piece].rows.append(row)
            count += piece != name
        return count

    def merge_parts(self, names, name, bound):
        for old in names:
            self.find_leaf(old)
        parents = {self.tables[old].parent for old in names}
        if len(parents) != 1 or len(set(names)) < len(names):
            raise errors.NotSiblings()
        for old in names:
            if self.tables[old].checks:
                raise errors.OwnChecks(old)
        self.check_new_name(name, set(self.tables) - set(names))
        (parent,) = parents
        self.check_bound(parent, bound)
        bounds = [self.tables[old].bound for old in names]
        if (bound == "default") != ("default" in bounds):
            raise errors.InvalidBound()
        siblings = [self.tables[part].bound for part in self.parts(parent) if part not in names]
        self.check_same(parent, bounds, [bound], siblings)
        leaf = Leaf(self.tables[parent].schema, None, parent, bound)
        count = 0
        for old in names:
            rows = self.tables.pop(old).rows
            leaf.rows += rows
            count += len(rows) if old != name else 0
        self.tables[name] = leaf
        self.check_full()
        return count


def least_runs(leaves, behind):
    """The least of all tuples of as many runs as possible, found run by run."""
    reached = {leaf: {leaf} for leaf in leaves}
    for _ in leaves:
        for leaf in leaves:
            for other in list(reached[leaf]):
                reached[leaf] |= behind[other]
    runs = []
    left = set(leaves)
    while left:
        # A run is what a leaf reaches, if nothing else is left that it has to stand behind.
        free = [
            tuple(sorted(reached[leaf] & left)) for leaf in left
            if all(leaf in reached[other] for other in reached[leaf] & left)
        ]
        runs.append(min(free))
        left -= set(runs[-1])
    return tuple(runs)
