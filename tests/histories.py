"""Histories by chance, always the same ones for the same chooser, of a store and of the model.

What calls return or raise, and what the stores are afterwards, is compared.
"""

from partwise.bounds import Bound
from partwise.columns import Column, Schema
from partwise.cuts import Cut
from partwise.dumps import dump, load
from partwise.store import CountingStore, GuardedCountingStore, GuardedStore, Plan, Store
from tests.making import random_condition
from tests.model import NUMBERS, PARAMETERS, WORDS, Model, box, parameter_kinds, signature
from tests.samples import ANY_VALUES

SCHEMAS = [
    Schema(Column("a", "number", is_required=True), Column("w", "word")),
    Schema(Column("a", "number"), Column("b", "number", is_required=True), Column("w", "word")),
    Schema(Column("w", "word", is_required=True), Column("a", "number")),
]
NAMES = ["t", "u", "v", "pa", "pb", "pc", "pd", "qa", "qb", "qc", "ra", "rb"]
LABELS = ["box", "one", "two", "three"]
SIGNS = ["-", "+"]


class B(str):
    """The text of a bound: for the model as it is, for the store a Bound."""


class C(tuple):
    """The kind and the columns of a cut: for the model as they are, for the store a Cut."""


def for_store(value):
    """An argument for the model as one for the store."""
    if isinstance(value, B):
        return Bound.read(str(value))
    if isinstance(value, C):
        return Cut(*value)
    if type(value) in (list, tuple):
        return type(value)([for_store(entry) for entry in value])
    return value


def outcome(call):
    """What a call returns, or the kind and the fields of its error."""
    try:
        value = call()
    except Exception as error:
        return type(error), vars(error)
    if isinstance(value, Plan):
        return value.leaves, value.whole, value.runs
    return value


STEPS = (
    "create create_part drop add_check drop_check add_key drop_key add_rows delete_rows change_rows attach "
    "detach split_part merge_parts rebound"
).split()


def new_store(model_limit, is_counting):
    if model_limit is None:
        return CountingStore() if is_counting else Store()
    return GuardedCountingStore(model_limit) if is_counting else GuardedStore(model_limit)


class Pair:
    """A store and the model of it, for which everything is done alike."""

    def __init__(self, test, limit=None, is_counting=False):
        self.test = test
        self.is_counting = is_counting
        self.store = new_store(limit, is_counting)
        self.model = Model(limit)
        self.told = []
        # How often each method returned something, and raised an error of each kind.
        self.seen = {}

    def call(self, method, *arguments, **named):
        """Calls a method of both; returns what it returned, None for an error."""
        self.told.append((method, arguments, named))
        found = outcome(lambda: getattr(self.store, method)(*for_store(arguments), **named))
        due = outcome(lambda: self.on_model(method, *arguments, **named))
        self.test.assertEqual(found, due, self.last())
        self.test.assertEqual(repr(found), repr(due), self.last())
        is_error = isinstance(due, tuple) and len(due) == 2 and isinstance(due[0], type)
        what = due[0].__name__ if is_error else "done"
        self.seen[method, what] = self.seen.get((method, what), 0) + 1
        return None if is_error else due

    def on_model(self, method, *arguments, **named):
        if method in STEPS:
            return self.model.step(method, *arguments, **named)
        looked = self.model.looked
        try:
            return getattr(self.model, method)(*arguments, **named)
        except Exception:
            self.model.looked = looked
            raise

    def last(self):
        """The calls up to now, for a test that fails."""
        return "\n".join(f"{method} {arguments} {named}" for method, arguments, named in self.told[-60:])

    def compare(self):
        """Compares all that can be seen of the tables."""
        store, model, test = self.store, self.model, self.test
        test.assertEqual(store.names, tuple(sorted(model.tables)), self.last())
        test.assertEqual(store.tops, tuple(name for name in store.names if model.tables[name].parent is None))
        test.assertEqual(store.looked, model.looked, self.last())
        test.assertEqual(store.steps, len(model.done), self.last())
        for name, table in model.tables.items():
            cut = store.cut_of(name)
            test.assertEqual(cut and (cut.kind,) + cut.columns, table.cut, self.last())
            bound = store.bound_of(name)
            test.assertEqual(bound and bound.text, table.bound, self.last())
            test.assertEqual(store.parent_of(name), table.parent, self.last())
            test.assertEqual(store.schema_of(name), table.schema, self.last())
            test.assertEqual(store.checks_of(name), table.checks, self.last())
            test.assertEqual(store.keys_of(name), tuple(table.uniques), self.last())
            test.assertEqual(store.parts_of(name), tuple(model.parts(name)), self.last())
            test.assertEqual(store.leaves_of(name), tuple(model.leaves(name)), self.last())
            test.assertEqual(list(store.rows_of(name)), model.rows_of(name), self.last())
            test.assertEqual(store.count_rows(name), len(model.rows_of(name)), self.last())
        if self.is_counting:
            test.assertEqual(list(store.counts.items()), sorted(model.counts.items()), self.last())

    def compare_copies(self):
        """Compares the store with its copy, and with what its dump makes."""
        copy = self.store.copied()
        self.test.assertEqual(type(copy), type(self.store))
        self.test.assertTrue(copy == self.store and copy.steps == 0 and copy.looked == ())
        loaded = load(dump(self.store))
        self.test.assertTrue(loaded == self.store and self.store == loaded, self.last())


class History:
    """Chooses what is done with a pair."""

    def __init__(self, pair, chooser):
        self.pair = pair
        self.model = pair.model
        self.chooser = chooser

    def some(self, count, total):
        """True so many times out of all."""
        return self.chooser.randrange(total) < count

    def begin(self):
        """Some tables to start with."""
        while len(self.model.tables) < 4:
            self.create()
            self.create_part()

    def step(self):
        kinds = (
            "create create_part create_part create_part add_rows add_rows add_rows add_rows add_check drop_check "
            "add_key drop_key delete change change attach attach detach split split merge merge rebound rebound "
            "drop undo undo redo work"
        ).split()
        getattr(self, self.chooser.choice(kinds))()

    def question(self):
        kinds = "ask ask plan plan count separate extreme moves join pairs partwise leaf possible".split()
        getattr(self, self.chooser.choice(kinds))()

    # What is drawn.

    def name(self):
        if self.some(1, 40):
            return self.chooser.choice(ANY_VALUES + ["order", "lowercase"])
        return self.chooser.choice(NAMES)

    def table(self, is_wanted=lambda table: True):
        """The name of a table, mostly of a wanted one."""
        names = [name for name, table in sorted(self.model.tables.items()) if is_wanted(table)]
        return self.chooser.choice(names) if names and not self.some(1, 15) else self.name()

    def top(self):
        return self.table(lambda table: table.parent is None)

    def part(self):
        return self.table(lambda table: table.parent is not None)

    def cut_table(self):
        return self.table(lambda table: table.cut)

    def found(self, name):
        return self.model.tables.get(name) if isinstance(name, str) else None

    def schema(self, name):
        table = self.found(name)
        return SCHEMAS[0] if table is None else table.schema

    def cut(self, schema):
        if self.some(2, 5):
            return None
        kind = self.chooser.choice(["range", "range", "values", "rest"])
        columns = list(schema.names) + (["zz"] if self.some(1, 30) else [])
        self.chooser.shuffle(columns)
        return C([kind] + columns[:self.chooser.randint(1, 2) if kind == "range" else 1])

    def value(self, column):
        return self.chooser.choice(NUMBERS if column.kind == "number" else WORDS)

    def bound(self, name):
        """A bound of a part of this table, perhaps one that fits."""
        table = self.found(name)
        if table is None or not table.cut or self.some(1, 40):
            return B(self.chooser.choice(["default", "range 0 to 3", "values null 'a", "rest 2 0", "values null"]))
        if self.some(1, 6):
            return B("default")
        columns = [table.schema[column] for column in table.cut[1:]]
        if table.cut[0] == "rest":
            modulus = self.chooser.choice([2, 2, 3, 4, 6])
            return B(f"rest {modulus} {self.chooser.randrange(modulus)}")
        if table.cut[0] == "values":
            values = {self.value(columns[0]) for _ in range(self.chooser.randint(1, 3))}
            words = ["null"] if self.some(1, 3) else []
            return B(" ".join(["values"] + words + [written(value) for value in sorted(values)]))
        while True:
            text = " ".join(["range"] + self.end(columns) + ["to"] + self.end(columns))
            if isinstance(outcome(lambda: Bound.read(text)), Bound):
                return B(text)

    def end(self, columns):
        words = []
        for column in columns:
            if words and words[-1] in SIGNS:
                words.append(words[-1])
            elif self.some(1, 4):
                words.append(self.chooser.choice(SIGNS))
            else:
                words.append(written(self.value(column)))
        return words

    def free_bound(self, name, but=None):
        """A bound that mostly leaves the other parts their keys."""
        table = self.found(name)
        bound = self.bound(name)
        if table is None or not table.cut or self.some(1, 6):
            return bound
        for _ in range(12):
            others = [self.model.tables[part].bound for part in self.model.parts(name) if part != but]
            fault = outcome(lambda: any(self.model.do_overlap(name, bound, other) for other in others))
            if fault is False:
                break
            bound = self.bound(name)
        return bound

    def condition(self, schema, count=3, has_parameters=True):
        while True:
            atoms = self.chooser.randint(1, count)
            text = random_condition(self.chooser, schema, atoms, list(NUMBERS) + [5], ["a", "b", "c", "bb"]).text
            if text.count("$2") == 0 or self.some(1, 4):
                if has_parameters or "$" not in text:
                    return text

    def where(self, schema, is_open=False):
        """A condition and values of its parameters."""
        if self.some(1, 3):
            return "", None if is_open and self.some(1, 2) else []
        if self.some(1, 40):
            return self.chooser.choice(ANY_VALUES + ["a = $2", "a >", "w = 'a or", "zz = 1"]), ()
        text = self.condition(schema)
        if is_open and self.some(2, 3):
            return text, None
        if self.some(1, 40):
            return text, self.chooser.choice(ANY_VALUES + [[1], ["a"], [1, 1], [True]])
        kinds = parameter_kinds(signature(schema), text)
        return text, [self.chooser.choice(PARAMETERS[kind]) for kind in kinds]

    def row(self, name):
        """A row, mostly one that is possible in the table."""
        table = self.found(name)
        if self.some(1, 30):
            return self.chooser.choice(ANY_VALUES + [(1, "a"), (None, None), (1, "a", 2), (0, 0, "a")])
        if table is not None and not self.some(1, 10):
            leaves = self.model.leaves(name)
            rows = self.model.possible(self.chooser.choice(leaves)) if leaves else []
            if rows:
                return self.chooser.choice(rows)
        return tuple(self.value(column) for column in self.schema(name).columns)

    def columns(self, schema, least=0):
        columns = [self.chooser.choice(schema.names) for _ in range(self.chooser.randint(least, 2))]
        if self.some(1, 40):
            columns.append(self.chooser.choice(ANY_VALUES + ["zz"]))
        return columns

    def order(self, schema):
        return [
            (column, "down") if self.some(1, 2) and column in schema.names else column
            for column in self.columns(schema)
        ]

    def changes(self, schema):
        changes = {}
        for column in self.chooser.sample(schema.columns, self.chooser.randint(0, 2)):
            if column.kind == "number" and self.some(1, 2):
                changes[column.name] = ("add", self.chooser.choice([-2, -1, 0, 1, 2, 10 ** 30]))
            else:
                changes[column.name] = None if self.some(1, 4) else self.value(column)
        if self.some(1, 30):
            changes[self.chooser.choice(["zz", "a", "w"])] = self.chooser.choice(ANY_VALUES + [["add", 1], ("add", "a")])
        return changes

    # Steps.

    def create(self):
        schema = self.chooser.choice(SCHEMAS)
        name, cut = self.name(), self.cut(schema)
        if self.some(1, 10) or outcome(lambda: self.model.check_new(name, schema, cut)) is not None:
            if outcome(lambda: self.model.check_new(name, schema, cut)) is not None:
                self.pair.call("create", name, schema, cut)
            return
        # Without its box, a table would have too many possible rows for the model.
        self.work_of([("create", name, schema, cut), ("add_check", name, "box", box(schema))])

    def work_of(self, calls):
        pair = self.pair
        pair.told.append(("work", calls, {}))
        found = outcome(lambda: pair.store.in_work(lambda store: [
            getattr(store, method)(*for_store(arguments)) for method, *arguments in calls
        ]))
        due = outcome(lambda: self.model.in_work(lambda model: [
            model.step(method, *arguments) for method, *arguments in calls
        ]))
        pair.test.assertEqual(found, due, pair.last())

    def create_part(self):
        parent = self.cut_table()
        name = self.chooser.choice([name for name in NAMES if name not in self.model.tables] or NAMES)
        if self.some(1, 6):
            name = self.name()
        self.pair.call("create_part", name, parent, self.free_bound(parent), self.cut(self.schema(parent)))

    def drop(self):
        if self.some(1, 4):
            self.pair.call("drop", self.table())

    def add_rows(self):
        name = self.table()
        self.pair.call("add_rows", name, [self.row(name) for _ in range(self.chooser.randint(0, 4))])

    def add_check(self):
        name = self.table()
        text = self.condition(self.schema(name), 2, self.some(1, 10))
        if self.some(1, 20):
            text = self.chooser.choice(ANY_VALUES)
        # Only a table that has its box may be asked to have another one.
        table = self.found(name)
        labels = LABELS if table is not None and "box" in table.checks else LABELS[1:]
        label = self.chooser.choice(labels + ([5, "is"] if self.some(1, 10) else []))
        self.pair.call("add_check", name, label, text)

    def drop_check(self):
        name = self.table(lambda table: set(table.checks) - {"box"})
        table = self.found(name)
        labels = [label for label in sorted(table.checks) if label != "box"] if table is not None else []
        if not labels or self.some(1, 10):
            labels = LABELS[1:] + [None, ["one"]]
        self.pair.call("drop_check", name, self.chooser.choice(labels))

    def add_key(self):
        name = self.top()
        columns = list(self.schema(name).names)
        self.chooser.shuffle(columns)
        columns = columns[:self.chooser.randint(0, 3)] + (self.columns(self.schema(name)) if self.some(1, 8) else [])
        self.pair.call("add_key", name, *columns)

    def drop_key(self):
        if self.some(1, 2):
            name = self.top()
            table = self.found(name)
            columns = list(self.chooser.choice(table.uniques)) if table and table.uniques else ["a"]
            self.chooser.shuffle(columns)
            self.pair.call("drop_key", name, *columns)

    def delete(self):
        name = self.table()
        where, parameters = self.where(self.schema(name))
        if where != "" or self.some(1, 8):
            self.pair.call("delete_rows", name, where, parameters)

    def change(self):
        name = self.table()
        schema = self.schema(name)
        where, parameters = self.where(schema)
        self.pair.call("change_rows", name, where, parameters, **self.changes(schema))

    def attach(self):
        parent = self.cut_table()
        self.pair.call("attach", self.top(), parent, self.free_bound(parent))

    def detach(self):
        name = self.part()
        table = self.found(name)
        if table is None or table.parent is None:
            self.pair.call("detach", name)
        elif "box" in table.checks:
            self.pair.call("detach", name)
        elif len(table.checks) < 2:
            self.work_of([("add_check", name, "box", box(table.schema)), ("detach", name)])

    def split(self):
        name = self.table(lambda table: table.parent is not None and not table.cut)
        table = self.found(name)
        parent = table.parent if table is not None else None
        if parent is None or self.some(1, 30):
            self.pair.call("split_part", name, self.chooser.choice(ANY_VALUES + [[("x", B("default"))]]))
            return
        for _ in range(30):
            pieces = [(self.name(), self.bound(parent)) for _ in range(self.chooser.randint(1, 3))]
            if self.some(1, 2):
                pieces[0] = (name, pieces[0][1])
            if table.bound.startswith("range") and len(pieces) > 1:
                pieces = self.range_pieces(table.bound, pieces, parent)
            if not isinstance(outcome(lambda: self.on_copy("split_part", name, pieces)), tuple) or self.some(1, 40):
                break
        self.pair.call("split_part", name, pieces)

    def range_pieces(self, text, pieces, parent):
        """Pieces that cut a range at an end of another one."""
        low, high = text[len("range "):].split(" to ")
        other = self.bound(parent)
        if not other.startswith("range"):
            return pieces
        middle = other[len("range "):].split(" to ")[0]
        texts = [f"range {low} to {middle}", f"range {middle} to {high}"]
        if not all(isinstance(outcome(lambda text=text: Bound.read(text)), Bound) for text in texts):
            return pieces
        return [(piece, B(text)) for (piece, _), text in zip(pieces, texts)]

    def on_copy(self, method, *arguments):
        """What the model would return."""
        model = Model(self.model.limit)
        model.tables = self.model.snapshot()
        return model.step(method, *arguments)

    def merge(self):
        parent = self.cut_table()
        table = self.found(parent)
        parts = self.model.parts(parent) if table is not None else []
        parts = [part for part in parts if not self.model.tables[part].cut or self.some(1, 20)]
        names, bound = [self.name()], B("default")
        for _ in range(30):
            names = self.chooser.sample(parts, min(len(parts), self.chooser.randint(1, 3)))
            if self.some(1, 30):
                names.append(self.name())
            bound = self.bound(parent)
            name = self.chooser.choice(names + NAMES)
            if not isinstance(outcome(lambda: self.on_copy("merge_parts", names, name, bound)), tuple):
                break
        self.pair.call("merge_parts", names, name, bound)

    def rebound(self):
        name = self.part()
        table = self.found(name)
        parent = table.parent if table is not None else None
        bound = self.free_bound(parent, name)
        for _ in range(10):
            if isinstance(outcome(lambda: self.on_copy("rebound", name, bound)), int):
                break
            bound = self.free_bound(parent, name)
        self.pair.call("rebound", name, bound)

    def undo(self):
        self.pair.call("undo")

    def redo(self):
        self.pair.call("redo")

    def work(self):
        """Some steps within a work, which may fail at the end."""
        if not self.some(1, 3):
            return
        pair = self.pair
        fails = self.some(1, 3)
        model, store = self.model, pair.store
        pair.told.append(("begin", (), {}))

        class Failure(Exception):
            pass

        # The model works along in the work of the store.
        kept = model.snapshot(), model.done, model.undone
        model.done, model.undone = [], []

        def action(same):
            pair.test.assertIs(same, store)
            for _ in range(self.chooser.randint(0, 5)):
                self.step()
                pair.compare()
            if fails:
                raise Failure
            return "ended"

        found = outcome(lambda: store.in_work(action))
        pair.told.append(("failed" if fails else "ended", (), {}))
        if fails:
            pair.test.assertEqual(found, (Failure, {}))
            model.tables, model.done, model.undone = kept
        else:
            pair.test.assertEqual(found, "ended")
            if model.done:
                model.done, model.undone = kept[1] + [kept[0]], []
            else:
                model.done, model.undone = kept[1:]

    # Questions.

    def ask(self):
        name = self.table()
        schema = self.schema(name)
        where, parameters = self.where(schema)
        columns = None if self.some(1, 2) else self.columns(schema)
        limit = self.chooser.choice([None, None, 0, 1, 2, 3, 5]) if not self.some(1, 40) else self.chooser.choice(ANY_VALUES)
        self.pair.call("ask", name, where, parameters, columns=columns, order=self.order(schema), limit=limit)

    def plan(self):
        name = self.table()
        schema = self.schema(name)
        where, parameters = self.where(schema, True)
        self.pair.call("plan_for", name, where, parameters, order=self.order(schema))

    def count(self):
        name = self.table()
        schema = self.schema(name)
        where, parameters = self.where(schema)
        self.pair.call("count_groups", name, where, parameters, by=self.columns(schema))

    def separate(self):
        name = self.table()
        schema = self.schema(name)
        where, parameters = self.where(schema, True)
        self.pair.call("is_separate", name, self.columns(schema), where, parameters)

    def extreme(self):
        name = self.table()
        schema = self.schema(name)
        where, parameters = self.where(schema)
        (column,) = self.columns(schema, 2)[-1:]
        self.pair.call("extreme", name, column, where, parameters, is_greatest=self.some(1, 2))

    def moves(self):
        name = self.table()
        schema = self.schema(name)
        where, parameters = self.where(schema, True)
        self.pair.call("moves", name, where, parameters, **self.changes(schema))

    def sides(self, is_open):
        """Two tables, columns of both, and conditions on both."""
        one, other = self.table(), self.table()
        on = []
        for _ in range(0 if self.some(1, 30) else self.chooser.choice([1, 1, 2])):
            first = self.chooser.choice(self.schema(one).names)
            same = [c.name for c in self.schema(other).columns if c.kind == self.schema(one)[first].kind]
            second = self.chooser.choice(same if same and not self.some(1, 20) else ["zz", "w", "a", None])
            on.append((first, second))
        where, parameters = self.where(self.schema(one), is_open)
        other_where, other_parameters = self.where(self.schema(other), is_open)
        return (one, other, on), {
            "where": where, "other_where": other_where,
            "parameters": parameters, "other_parameters": other_parameters,
        }

    def join(self):
        arguments, named = self.sides(False)
        kind = self.chooser.choice(["inner", "left", "some", "none"] + (ANY_VALUES if self.some(1, 20) else []))
        self.pair.call("join_rows", *arguments, kind=kind, **named)

    def pairs(self):
        arguments, named = self.sides(True)
        self.pair.call("pairs", *arguments, **named)

    def partwise(self):
        arguments, named = self.sides(True)
        self.pair.call("is_partwise", *arguments, **named)

    def leaf(self):
        name = self.table()
        self.pair.call("leaf_of", name, self.row(name))

    def possible(self):
        self.pair.call("possible_row", self.table())


def grown(test, chooser, *actions):
    """A pair with some tables and what these actions do with them, and the history of it."""
    pair = Pair(test)
    history = History(pair, chooser)
    history.begin()
    for _ in range(12):
        for action in actions:
            getattr(history, action)()
    return pair, history


def written(value):
    return f"'{value}" if isinstance(value, str) else str(value)
