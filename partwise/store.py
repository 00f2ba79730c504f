"""Stores of tables that are cut into parts, and questions about them."""

from partwise.asking import (
    ask_in, check_limit, count_groups_in, extreme_in, is_separate_in, plan_for_in, possible_row_in,
)
from partwise.changing import add_rows_in, change_rows_in, delete_rows_in, moves_in
from partwise.errors import InvalidLimit, InvalidRow, NoPart, NothingToRedo, NothingToUndo, Stale
from partwise.forest import find_table, leaf_for, leaf_names, part_names, rows_below
from partwise.guards import add_check_in, add_key_in, drop_check_in, drop_key_in
from partwise.joins import are_partwise, join_rows_in, pairs_in
from partwise.pieces import merge_parts_in, split_part_in
from partwise.shaping import attach_in, create_in, create_part_in, detach_in, drop_in, rebound_in


class Plan:
    """The leaves that a question looks at, those of them that match as a whole, and their runs."""

    def __init__(self, leaves, whole, runs):
        self._leaves = leaves
        self._whole = whole
        self._runs = runs

    @property
    def leaves(self):
        return self._leaves

    @property
    def whole(self):
        return self._whole

    @property
    def runs(self):
        return self._runs

    def __eq__(self, other):
        return (
            isinstance(other, Plan)
            and self._leaves == other._leaves
            and self._whole == other._whole
            and self._runs == other._runs
        )


class Prepared:
    """A question to a store, with the plan for all parameters."""

    def __init__(self, store, asked, order, limit):
        self._store = store
        self._asked = asked
        self._order = tuple(order)
        self._limit = limit
        self.renew()
        check_limit(limit)

    @property
    def plan(self):
        return self._plan

    def is_stale(self):
        """Whether the table, its schema or the plan is not what it was."""
        name, where = self._asked
        if name not in self._store.names or self._store.schema_of(name) != self._schema:
            return True
        return self._store.plan_for(name, where, order=self._order) != self._plan

    def run(self, *parameters):
        """What ask returns with these parameters."""
        if self.is_stale():
            raise Stale()
        name, where = self._asked
        return self._store.ask(name, where, parameters, order=self._order, limit=self._limit)

    def renew(self):
        """Keeps the present schema and plan."""
        name, where = self._asked
        plan = self._store.plan_for(name, where, order=self._order)
        self._schema = self._store.schema_of(name)
        self._plan = plan


class Store:
    """Tables with rows or parts; the tables are replaced by each step, and never changed."""

    def __init__(self):
        self._tables = {}
        self._looked = ()
        # The tables before each step that can be taken back, and behind each that can be done again.
        self._done = []
        self._undone = []
        # How many rows a leaf holds at most, and how often each method was a step.
        self._most = None
        self._tally = {}

    def __eq__(self, other):
        return isinstance(other, Store) and self._tables == other._tables

    def _step(self, method, found):
        """Makes a step of the new tables, and returns the result that was found with them."""
        self._done.append(self._tables)
        self._undone = []
        self._tables = found[0]
        self._tally[method] = self._tally.get(method, 0) + 1
        return found[1]

    def copied(self):
        """An equal store without steps."""
        return self._copied_to(Store())

    def _copied_to(self, store):
        store._tables = self._tables
        return store

    @property
    def names(self):
        return tuple(sorted(list(self._tables)))

    @property
    def tops(self):
        return tuple(sorted([name for name in self._tables if self._tables[name].parent is None]))

    def create(self, name, schema, cut=None):
        """A new top table."""
        return self._step("create", create_in(self._tables, name, schema, cut))

    def create_part(self, name, parent, bound, cut=None):
        """A new part; returns the number of rows that were looked at."""
        return self._step("create_part", create_part_in(self._tables, name, parent, bound, cut))

    def drop(self, name):
        """Removes the table and all parts below it."""
        return self._step("drop", drop_in(self._tables, name))

    def schema_of(self, name):
        return find_table(self._tables, name).schema

    def cut_of(self, name):
        return find_table(self._tables, name).cut

    def bound_of(self, name):
        return find_table(self._tables, name).bound

    def parent_of(self, name):
        return find_table(self._tables, name).parent

    def parts_of(self, name):
        find_table(self._tables, name)
        return tuple(part_names(self._tables, name))

    def leaves_of(self, name):
        find_table(self._tables, name)
        return tuple(leaf_names(self._tables, name))

    def rows_of(self, name):
        """A generator of all rows, ascending."""
        find_table(self._tables, name)
        rows = rows_below(self._tables, name)
        for row in rows:
            yield row

    def count_rows(self, name):
        find_table(self._tables, name)
        return len(rows_below(self._tables, name))

    def add_check(self, name, label, text):
        """A condition that no row makes False; returns the number of rows that were looked at."""
        return self._step("add_check", add_check_in(self._tables, name, label, text))

    def drop_check(self, name, label):
        return self._step("drop_check", drop_check_in(self._tables, name, label))

    def checks_of(self, name):
        """The texts of the table's own checks, by their labels."""
        checks = find_table(self._tables, name).checks
        return {label: checks[label].text for label in sorted(checks)}

    def add_key(self, name, *columns):
        """Columns in which no two rows of the top table agree."""
        return self._step("add_key", add_key_in(self._tables, name, columns))

    def drop_key(self, name, *columns):
        return self._step("drop_key", drop_key_in(self._tables, name, columns))

    def keys_of(self, name):
        return find_table(self._tables, name).uniques

    def possible_row(self, name):
        """The least row that is possible in some leaf of the table, or None."""
        return possible_row_in(self._tables, name)

    def leaf_of(self, name, row):
        """The leaf of the table to which a row belongs."""
        if not find_table(self._tables, name).schema.is_row(row):
            raise InvalidRow(row)
        leaf = leaf_for(self._tables, name, row)
        if leaf is None:
            raise NoPart(row)
        return leaf

    @property
    def looked(self):
        return self._looked

    def _look(self, found):
        """Keeps the leaves that were looked at, and returns the result that was found there."""
        self._looked = tuple(found[1])
        return found[0]

    def add_rows(self, name, rows):
        """Puts rows into a table; returns their number."""
        return self._step("add_rows", add_rows_in(self._tables, name, rows, self._most))

    def delete_rows(self, name, where="", parameters=()):
        """Removes the rows for which the condition is True; returns their number."""
        tables, count, leaves = delete_rows_in(self._tables, name, where, parameters)
        return self._look((self._step("delete_rows", (tables, count)), leaves))

    def change_rows(self, name, where="", parameters=(), **changes):
        """Changes the rows for which the condition is True; returns their number."""
        tables, count, leaves = change_rows_in(self._tables, name, where, parameters, changes, self._most)
        return self._look((self._step("change_rows", (tables, count)), leaves))

    def moves(self, name, where="", parameters=None, **changes):
        """The pairs of leaves between which change_rows can move rows."""
        return moves_in(self._tables, name, where, parameters, changes)

    def ask(self, name, where="", parameters=(), *, columns=None, order=(), limit=None):
        """The rows for which the condition is True, in the order of its entries."""
        return self._look(ask_in(self._tables, name, where, parameters, columns, order, limit))

    def plan_for(self, name, where="", parameters=None, *, order=()):
        """The Plan of a question; parameters that are None stand for all values of them."""
        leaves, whole, runs = plan_for_in(self._tables, name, where, parameters, order)
        return Plan(leaves, whole, runs)

    def count_groups(self, name, where="", parameters=(), *, by=()):
        """The numbers of matching rows, by the tuples of their values in the columns."""
        return self._look(count_groups_in(self._tables, name, where, parameters, by))

    def is_separate(self, name, by, where="", parameters=None):
        """Whether no two leaves can hold matching rows that agree in the columns."""
        return is_separate_in(self._tables, name, by, where, parameters)

    def extreme(self, name, column, where="", parameters=(), *, is_greatest=False):
        """The least or the greatest value, other than None, of the column in a matching row."""
        return self._look(extreme_in(self._tables, name, column, where, parameters, is_greatest))

    def join_rows(
        self, one, other, on, *, kind="inner", where="", other_where="", parameters=(), other_parameters=()
    ):
        """The rows of two tables that agree in the columns, by the kind of the join."""
        wheres, given = (where, other_where), (parameters, other_parameters)
        return self._look(join_rows_in(self._tables, (one, other), on, kind, wheres, given))

    def pairs(self, one, other, on, *, where="", other_where="", parameters=None, other_parameters=None):
        """The pairs of leaves that can hold rows that are joined."""
        return pairs_in(self._tables, (one, other), on, (where, other_where), (parameters, other_parameters))

    def is_partwise(self, one, other, on, *, where="", other_where="", parameters=None, other_parameters=None):
        """Whether each leaf stands in at most one pair on each side."""
        wheres, given = (where, other_where), (parameters, other_parameters)
        return are_partwise(pairs_in(self._tables, (one, other), on, wheres, given))

    def attach(self, name, parent, bound):
        """Makes a top table a part; returns the number of rows that are looked at."""
        return self._step("attach", attach_in(self._tables, name, parent, bound))

    def detach(self, name):
        """Makes a part a top table."""
        return self._step("detach", detach_in(self._tables, name))

    def split_part(self, name, pieces):
        """Replaces a leaf by new ones; returns the number of rows whose leaf has another name."""
        return self._step("split_part", split_part_in(self._tables, name, pieces))

    def merge_parts(self, names, name, bound):
        """Replaces leaves by a new one; returns the number of rows whose leaf had another name."""
        return self._step("merge_parts", merge_parts_in(self._tables, names, name, bound, self._most))

    def rebound(self, name, bound):
        """Gives a part another bound; returns the number of rows that are looked at."""
        return self._step("rebound", rebound_in(self._tables, name, bound))

    def prepare(self, name, where="", *, order=(), limit=None):
        """A Prepared question."""
        return Prepared(self, (name, where), order, limit)

    def undo(self):
        """Takes back the last step."""
        if not self._done:
            raise NothingToUndo()
        self._undone.append(self._tables)
        self._tables = self._done.pop()

    def redo(self):
        """Does the step again that was taken back last."""
        if not self._undone:
            raise NothingToRedo()
        self._done.append(self._tables)
        self._tables = self._undone.pop()

    @property
    def steps(self):
        return len(self._done)

    def in_work(self, action):
        """Calls the action with the store; its steps become one, and an exception takes them back."""
        tables, done, undone = self._tables, self._done, self._undone
        self._done, self._undone = [], []
        ended = None
        try:
            result = action(self)
            ended = True
        finally:
            if ended is None:
                self._tables, self._done, self._undone = tables, done, undone
        if self._done:
            done.append(tables)
            undone = []
        self._done, self._undone = done, undone
        return result


class GuardedStore(Store):
    """A store in which each leaf holds at most so many rows."""

    def __init__(self, limit):
        check_guard(limit)
        super().__init__()
        self._most = limit

    def copied(self):
        """An equal store without steps, with the same limit."""
        return self._copied_to(GuardedStore(self._most))


class CountingStore(Store):
    """A store that counts its steps."""

    @property
    def counts(self):
        return {method: self._tally[method] for method in sorted(self._tally)}

    def copied(self):
        """An equal store without steps and counts."""
        return self._copied_to(CountingStore())


class GuardedCountingStore(GuardedStore, CountingStore):
    """A store that counts its steps, in which each leaf holds at most so many rows."""

    def __init__(self, limit):
        super().__init__(limit)

    @property
    def counts(self):
        return {method: self._tally[method] for method in sorted(self._tally)}

    def copied(self):
        """An equal store without steps and counts, with the same limit."""
        return self._copied_to(GuardedCountingStore(self._most))


def check_guard(limit):
    """Raises InvalidLimit unless any value is an integer of at least 1."""
    if isinstance(limit, bool) or not isinstance(limit, int) or limit < 1:
        raise InvalidLimit(limit)
