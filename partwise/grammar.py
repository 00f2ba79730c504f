"""The text of a condition, read word by word.

The reader's state is a tuple: what comes next, a detail of it, the open
parentheses, the counts of `not` and of atoms, and the kinds of the parameters
(None for those that have not occurred). It is never changed, only replaced.
"""

from partwise.limits import MAX_ATOMS, MAX_NOT, MAX_PARAMETERS, MAX_PARENTHESES, MAX_VALUES
from partwise.texts import is_modulus, is_remainder, kind_of, read_number, read_value

SIGNS = ("=", "<>", "<", "<=", ">", ">=")
PARAMETERS = ("$1", "$2", "$3", "$4")


def read_text(schema, text, barred=()):
    """The index of the first wrong word, None if there is none, and the parameters' kinds.

    The barred words are wrong everywhere.
    """
    if not isinstance(text, str):
        return 0, ()
    columns = {column.name: column.kind for column in schema.columns}
    words = text.split(" ")
    state = ("factor", None, 0, 0, 0, (None,) * MAX_PARAMETERS)
    for at, word in enumerate(words):
        state = None if word in barred else _after(columns, state, word)
        if state is None:
            return at, ()
    kinds = tuple([kind for kind in state[5] if kind is not None])
    # An operand may end the text, though `+` or `-` might follow it.
    is_complete = state[0] in ("end", "shift") and state[2] == 0
    if not is_complete or kinds != state[5][:len(kinds)]:
        return len(words), ()
    return None, kinds


def _after(columns, state, word):
    """The state behind a word, None if the word is wrong."""
    step = state[0]
    if step == "factor":
        return _after_factor(columns, state, word)
    if step == "verb":
        return _after_verb(state, word)
    if step == "operand":
        return _after_operand(columns, state, word)
    if step == "shift" and word in ("+", "-"):
        return _moved(state, "addend")
    if step in ("shift", "end"):
        return _after_end(state, word)
    if step == "values":
        return _after_values(state, word)
    return _after_detail(state, word)


def _moved(state, step, detail=None):
    return (step, detail) + state[2:]


def _after_factor(columns, state, word):
    depth, nots, atoms, kinds = state[2:]
    if word == "not" and nots < MAX_NOT:
        return ("factor", None, depth, nots + 1, atoms, kinds)
    if word == "(" and depth < MAX_PARENTHESES:
        return ("factor", None, depth + 1, nots, atoms, kinds)
    if word in columns:
        return ("verb", columns[word], depth, nots, atoms + 1, kinds)
    return None


def _after_verb(state, word):
    kind = state[1]
    if word in SIGNS:
        return _moved(state, "operand", kind)
    if word == "is":
        return _moved(state, "is")
    if word == "in":
        return _moved(state, "open", kind)
    if word == "rest" and kind == "number":
        return _moved(state, "modulus")
    return None


def _after_operand(columns, state, word):
    kind = state[1]
    if word in PARAMETERS:
        return _after_parameter(state, int(word[1:]) - 1)
    if word in columns:
        if columns[word] != kind:
            return None
        return _moved(state, "shift" if kind == "number" else "end")
    return _moved(state, "end") if kind_of(read_value(word)) == kind else None


def _after_parameter(state, at):
    kind = state[1]
    kinds = state[5]
    if kinds[at] not in (None, kind):
        return None
    return ("end", None) + state[2:5] + (kinds[:at] + (kind,) + kinds[at + 1:],)


def _after_values(state, word):
    kind, count = state[1]
    if word == ")" and count > 0:
        return _moved(state, "end")
    if kind_of(read_value(word)) == kind and count < MAX_VALUES:
        return _moved(state, "values", (kind, count + 1))
    return None


def _after_end(state, word):
    depth, nots, atoms, kinds = state[2:]
    if word == ")" and depth > 0:
        return ("end", None, depth - 1, nots, atoms, kinds)
    if word in ("and", "or") and atoms < MAX_ATOMS:
        return _moved(state, "factor")
    return None


def _after_detail(state, word):
    """Inside of an atom, where only one kind of word is right."""
    step = state[0]
    number = read_number(word)
    if step == "is" and word == "not":
        return _moved(state, "null")
    if step in ("is", "null") and word == "null":
        return _moved(state, "end")
    if step == "open" and word == "(":
        return _moved(state, "values", (state[1], 0))
    if step == "addend" and number is not None and number > 0:
        return _moved(state, "end")
    if step == "modulus" and is_modulus(number):
        return _moved(state, "remainder", number)
    if step == "remainder" and is_remainder(number, state[1]):
        return _moved(state, "end")
    return None
