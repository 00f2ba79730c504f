"""Bounds, which say what keys a part holds."""

from partwise.errors import InvalidBound, InvalidText
from partwise.limits import MAX_RANGE_COLUMNS, MAX_VALUES
from partwise.literals import ALWAYS, NEVER
from partwise.places import place_of
from partwise.spans import compared, gathered
from partwise.texts import is_modulus, is_remainder, kind_of, read_number, read_value, value_text
from partwise.words import is_number, is_word

# The ends of a range before and behind all values.
FIRST = "-"
LAST = "+"


class Bound:
    """Some of the keys of a cut.

    Each kind of bound says whether it fits a kind of cut and the kinds of its
    columns. Each but Default has a tree, as in partwise.formulas, that is True for
    the rows whose keys it holds.
    """

    @staticmethod
    def read(text):
        """The bound with this text."""
        if not isinstance(text, str):
            raise InvalidText(0)
        words = text.split(" ")
        if words[0] == "range":
            return _read_range(words)
        if words[0] == "values":
            return _read_values(words)
        if words[0] == "rest":
            return _read_rest(words)
        if words[0] != "default":
            raise InvalidText(0)
        if len(words) > 1:
            raise InvalidText(1)
        return Default()


class Range(Bound):
    """The keys from low on that are less than high."""

    def __init__(self, low, high):
        if not _are_ends(low, high):
            raise InvalidBound()
        self._low = low
        self._high = high

    @property
    def text(self):
        low = " ".join([_entry_text(entry) for entry in self._low])
        high = " ".join([_entry_text(entry) for entry in self._high])
        return f"range {low} to {high}"

    def fits(self, cut_kind, kinds):
        """Whether it bounds a part of a cut of this kind by columns of these kinds."""
        if cut_kind != "range" or len(kinds) != len(self._low):
            return False
        entries = [*self._low, *self._high]
        return all([_entry_kind(entry) in (None, kind) for entry, kind in zip(entries, kinds + kinds)])

    def key_tree(self, columns):
        """The tree that the values of the columns are a key of it."""
        somes = tuple([("not", ("null", column)) for column in columns])
        return ("and", somes + (_least_tree(columns, self._low), _less_tree(columns, self._high)))

    def __contains__(self, x):
        if not isinstance(x, tuple) or len(x) != len(self._low):
            return False
        if not all([is_number(value) or is_word(value) for value in x]):
            return False
        if not _agree_in_kinds(x, self._low) or not _agree_in_kinds(x, self._high):
            return False
        return _places(self._low) <= _places(x) < _places(self._high)

    def __eq__(self, other):
        return isinstance(other, Range) and self._low == other._low and self._high == other._high


class Values(Bound):
    """The keys with one of some values."""

    def __init__(self, *values):
        if not _are_values(values):
            raise InvalidBound()
        nones = [value for value in values if value is None]
        self._entries = nones + sorted([value for value in values if value is not None])

    @property
    def text(self):
        words = [value_text(value) for value in self._entries]
        return " ".join(["values"] + words)

    def fits(self, cut_kind, kinds):
        """Whether it bounds a part of a cut of this kind by columns of these kinds."""
        return cut_kind == "values" and all([kind_of(value) in (None, kinds[0]) for value in self._entries])

    def key_tree(self, columns):
        """The tree that the values of the columns are a key of it."""
        column = columns[0]
        places = [place_of(value) for value in self._entries if value is not None]
        trees = []
        if None in self._entries:
            trees.append(("null", column))
        if places:
            trees.append(("within", column, gathered(places)))
        return ("or", tuple(trees))

    def __contains__(self, x):
        if not isinstance(x, tuple) or len(x) != 1 or not _is_value(x[0]):
            return False
        return x[0] in self._entries

    def __eq__(self, other):
        return isinstance(other, Values) and self._entries == other._entries


class Rest(Bound):
    """The keys with a number that leaves this remainder."""

    def __init__(self, modulus, remainder):
        if not is_number(modulus) or not is_number(remainder):
            raise InvalidBound()
        if not is_modulus(modulus) or not is_remainder(remainder, modulus):
            raise InvalidBound()
        self._modulus = modulus
        self._remainder = remainder

    @property
    def text(self):
        return f"rest {self._modulus} {self._remainder}"

    def fits(self, cut_kind, kinds):
        """Whether it bounds a part of a cut of this kind by columns of these kinds."""
        return cut_kind == "rest" and kinds[0] == "number"

    def key_tree(self, columns):
        """The tree that the values of the columns are a key of it."""
        return ("rest", columns[0], self._modulus, self._remainder)

    def __contains__(self, x):
        if not isinstance(x, tuple) or len(x) != 1 or not is_number(x[0]):
            return False
        return x[0] % self._modulus == self._remainder

    def __eq__(self, other):
        return isinstance(other, Rest) and self._modulus == other._modulus and self._remainder == other._remainder


class Default(Bound):
    """The keys that no other bound of the same cut holds."""

    @property
    def text(self):
        return "default"

    def fits(self, cut_kind, kinds):
        """A default part may be one of every cut."""
        return True

    def __eq__(self, other):
        return isinstance(other, Default)


def _least_tree(columns, entries):
    """The tree that the values of the columns, none of them None, are at least these entries."""
    if entries[0] in (FIRST, LAST):
        return ALWAYS if entries[0] == FIRST else NEVER
    column = columns[0]
    place = place_of(entries[0])
    if len(entries) == 1:
        return ("within", column, compared(">=", place))
    equal = ("and", (("within", column, compared("=", place)), _least_tree(columns[1:], entries[1:])))
    return ("or", (("within", column, compared(">", place)), equal))


def _less_tree(columns, entries):
    """The tree that the values of the columns, none of them None, are less than these entries."""
    if entries[0] in (FIRST, LAST):
        return NEVER if entries[0] == FIRST else ALWAYS
    column = columns[0]
    less = ("within", column, compared("<", place_of(entries[0])))
    if len(entries) == 1:
        return less
    equal = ("and", (("within", column, compared("=", place_of(entries[0]))), _less_tree(columns[1:], entries[1:])))
    return ("or", (less, equal))


def _is_value(value):
    return value is None or is_number(value) or is_word(value)


def _are_values(values):
    """Whether the tuple of any values makes up a Values."""
    if not 1 <= len(values) <= MAX_VALUES or not all([_is_value(value) for value in values]):
        return False
    kinds = [kind_of(value) for value in values]
    return len(set(values)) == len(values) and not ("number" in kinds and "word" in kinds)


def _are_ends(low, high):
    """Whether any two values make up a Range."""
    if not _is_end(low) or not _is_end(high) or len(low) != len(high):
        return False
    return _agree_in_kinds(low, high) and _places(low) < _places(high)


def _is_end(value):
    if not isinstance(value, tuple) or not 1 <= len(value) <= MAX_RANGE_COLUMNS:
        return False
    if not all([entry in (FIRST, LAST) or is_number(entry) or is_word(entry) for entry in value]):
        return False
    return all([entry not in (FIRST, LAST) or entry == behind for entry, behind in zip(value, value[1:])])


def _agree_in_kinds(one, other):
    """Whether no number of the entries stands at the index of a word of the other ones."""
    kinds = [(_entry_kind(entry), _entry_kind(match)) for entry, match in zip(one, other)]
    return all([None in pair or pair[0] == pair[1] for pair in kinds])


def _entry_kind(entry):
    return None if entry in (FIRST, LAST) else kind_of(entry)


def _places(entries):
    """Tuples that are ordered as the entries are."""
    places = []
    for entry in entries:
        if entry == FIRST:
            places.append((0, 0))
        elif entry == LAST:
            places.append((2, 0))
        else:
            places.append((1, entry))
    return places


def _entry_text(entry):
    return entry if entry in (FIRST, LAST) else value_text(entry)


def _read_range(words):
    low, high = (), ()
    is_behind = False
    for at in range(1, len(words)):
        if words[at] == "to" and low and not is_behind:
            is_behind = True
            continue
        entry = words[at] if words[at] in (FIRST, LAST) else read_value(words[at])
        if is_behind:
            high = high + (entry,)
        else:
            low = low + (entry,)
        if not _begin_range(low, high):
            raise InvalidText(at)
    if not high or len(high) != len(low):
        raise InvalidText(len(words))
    return Range(low, high)


def _begin_range(low, high):
    """Whether a range begins with these entries; each one but the last is known to be right."""
    # If any end goes on so, the greatest one does.
    return _are_ends(low, high + (LAST,) * (len(low) - len(high)))


def _read_values(words):
    values = []
    for at in range(1, len(words)):
        value = read_value(words[at])
        is_null = words[at] == "null" and not values
        if (value is None and not is_null) or len(values) == MAX_VALUES:
            raise InvalidText(at)
        if values and not _ascend(values[-1], value):
            raise InvalidText(at)
        values.append(value)
    if not values:
        raise InvalidText(len(words))
    return Values(*values)


def _ascend(one, other):
    if one is None:
        return True
    return kind_of(one) == kind_of(other) and one < other


def _read_rest(words):
    if len(words) > 1 and not is_modulus(read_number(words[1])):
        raise InvalidText(1)
    if len(words) > 2 and not is_remainder(read_number(words[2]), read_number(words[1])):
        raise InvalidText(2)
    if len(words) != 3:
        raise InvalidText(min(len(words), 3))
    return Rest(read_number(words[1]), read_number(words[2]))
