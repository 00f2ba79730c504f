"""A second, slow reading of points 30 to 33: which keys a bound holds, and least keys.

It shares no code with the package. Bounds are read by their texts.
"""

import itertools

from tests.plain import next_word, order

TOP = 10 ** 30
LAST = "zzzzzzzz"


def value_of(word):
    if word == "null":
        return None
    return word[1:] if word.startswith("'") else int(word)


def kind_of(value):
    return "word" if isinstance(value, str) else "number"


def ends_of(text):
    """The ends of a range, with its signs as they are written."""
    words = text.split(" ")[1:]
    at = words.index("to")
    low, high = words[:at], words[at + 1:]
    return [[word if word in "-+" else value_of(word) for word in end] for end in (low, high)]


def place(entry):
    return (0, 0) if entry == "-" else (2, 0) if entry == "+" else (1, entry)


def constants_of(text):
    """The values that occur in the text of a bound."""
    if text == "default" or text.startswith("rest"):
        return []
    return [value_of(word) for word in text.split(" ")[1:] if word not in ("to", "-", "+")]


def holds(text, others, key):
    """Whether the bound with this text holds the key, beside those of the other parts."""
    kind, *words = text.split(" ")
    if kind == "default":
        return not any(holds(other, [], key) for other in others if other != "default")
    if kind == "values":
        return key[0] in [value_of(word) for word in words]
    if None in key:
        return False
    if kind == "rest":
        return key[0] % int(words[0]) == int(words[1])
    low, high = ends_of(text)
    places = [(1, value) for value in key]
    return [place(entry) for entry in low] <= places < [place(entry) for entry in high]


def fits(schema, kind, columns, text):
    """Whether the bound with this text fits the cut."""
    if text == "default":
        return True
    if text.split(" ")[0] != kind:
        return False
    kinds = [schema[name].kind for name in columns]
    if kind == "rest":
        return kinds == ["number"]
    if kind == "values":
        return all(value is None or kind_of(value) == kinds[0] for value in constants_of(text))
    low, high = ends_of(text)
    return len(low) == len(kinds) and all(
        entry in ("-", "+") or kind_of(entry) == kind for entry, kind in zip(low + high, kinds + kinds)
    )


def candidates(column, texts):
    """Values of the column among which are the least ones of all that bounds with these texts may tell apart."""
    constants = [value for text in texts for value in constants_of(text) if value is not None]
    constants = [value for value in constants if kind_of(value) == column.kind]
    if column.kind == "word":
        found = {"a", LAST, *constants, *map(next_word, constants)}
        found = {word for word in found if len(word) <= 8}
    else:
        found = {number + k for number in constants for k in (-1, 0, 1)}
        found |= set(range(-TOP, -TOP + 61)) | {TOP}
        found = {number for number in found if abs(number) <= TOP}
    return sorted(found) + ([] if column.is_required else [None])


def least_key(schema, columns, texts, is_wanted):
    """The least key that is wanted, if what is wanted depends on bounds with these texts; or None."""
    values = [candidates(schema[name], texts) for name in columns]
    return min(filter(is_wanted, itertools.product(*values)), key=order, default=None)
