"""The parts of statements. Each reader raises InvalidStatement for words that it cannot read."""

from partwise.bounds import Bound
from partwise.columns import Column
from partwise.cuts import Cut
from partwise.errors import InvalidCut, InvalidStatement, InvalidText
from partwise.texts import read_number, read_value
from partwise.words import is_name

# What may stand behind the name and the colon of a field, and the kind that it means.
FIELD_KINDS = {"number": "number", "number!": "number", "word": "word", "word!": "word"}


def check_form(is_right):
    if not is_right:
        raise InvalidStatement()


def cut_at(words, mark):
    """The words before the first mark, and those behind it; None for these if there is none."""
    for at, word in enumerate(words):
        if word == mark:
            return words[:at], words[at + 1:]
    return words, None


def groups_of(words):
    """The groups of words between which a stroke stands."""
    groups = [[]]
    for word in words:
        if word == "/":
            groups.append([])
        else:
            groups[-1].append(word)
    return groups


def read_name(word):
    check_form(is_name(word))
    return word


def read_names(words):
    """One or more names."""
    check_form(len(words) > 0)
    return [read_name(word) for word in words]


def read_one_name(words):
    check_form(len(words) == 1)
    return read_name(words[0])


def read_field(word):
    """A column as it is written in a statement."""
    name, _, kind = word.partition(":")
    check_form(kind in FIELD_KINDS)
    return Column(read_name(name), FIELD_KINDS[kind], is_required=kind.endswith("!"))


def read_cut(words):
    """A cut without its first word, `by`; None if there are no words at all."""
    if words is None:
        return None
    check_form(len(words) > 0)
    kind, columns = words[0], words[1:]
    try:
        return Cut(kind, *columns)
    except InvalidCut:
        raise InvalidStatement() from None


def read_bound(words):
    try:
        return Bound.read(" ".join(words))
    except InvalidText:
        raise InvalidStatement() from None


def read_piece(words):
    """The name of a part and its bound."""
    check_form(len(words) > 1)
    return read_name(words[0]), read_bound(words[1:])


def read_row(words):
    check_form(len(words) > 0)
    return tuple([read_entry(word) for word in words])


def read_entry(word):
    """A value or `null`."""
    value = read_value(word)
    check_form(value is not None or word == "null")
    return value


def read_where(words):
    """The words before a condition, and its text, which is empty if there is none."""
    words, behind = cut_at(words, "where")
    if behind is None:
        return words, ""
    check_form(len(behind) > 0)
    return words, " ".join(behind)


def read_order(words):
    """The entries of an order; none without words."""
    if words is None:
        return []
    check_form(len(words) > 0)
    return [(read_name(word[1:]), "down") if word.startswith("-") else read_name(word) for word in words]


def read_limit(words):
    """A number of rows; None without words."""
    if words is None:
        return None
    check_form(len(words) == 1)
    number = read_number(words[0])
    check_form(number is not None and number >= 0)
    return number


def read_changes(words):
    """What is done with columns, by their names."""
    changes = {}
    while words:
        column = read_name(words[0])
        check_form(len(words) > 1 and column not in ("name", "self") and column not in changes)
        if words[1] != "add":
            changes[column] = read_entry(words[1])
            words = words[2:]
            continue
        check_form(len(words) > 2)
        number = read_number(words[2])
        check_form(number is not None)
        changes[column] = ("add", number)
        words = words[3:]
    check_form(len(changes) > 0)
    return changes
