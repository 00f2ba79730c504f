"""A second reading of point 12: which texts are those of conditions, and how they begin.

It shares no code with the package: atoms are replaced by `@`, and what is left is
reduced until nothing but one `@` is left.
"""

import functools
import re

NUMBER = r"(?:0|-?[1-9][0-9]*)"
WORD = r"'[a-z]{1,8}"
SIGN = r"(?:=|<>|<=|>=|<|>)"

# What may be missing at the end of an atom, and behind one.
ENDS = [
    [], ["null"], ["is", "null"], ["=", "1"], ["=", "'a"], ["1"], ["'a"], ["0"],
    ["2", "0"], ["(", "1", ")"], ["(", "'a", ")"], ["1", ")"], ["'a", ")"], [")"],
]


def names_of(columns, kind):
    return "(?:" + "|".join([name for name, other in columns if other == kind] + ["(?!)"]) + ")"


@functools.lru_cache(maxsize=None)
def atom_pattern(columns):
    """Matches an atom over the columns, pairs of their names and their kinds."""
    number, word = names_of(columns, "number"), names_of(columns, "word")
    return re.compile(
        r"(?<![^ ])(?:"
        rf"(?P<name>{number}|{word}) (?:"
        r"is not null|is null"
        rf"|in \( (?P<values>(?:{NUMBER}|{WORD})(?: (?:{NUMBER}|{WORD}))*) \)"
        rf"|rest (?P<modulus>{NUMBER}) (?P<remainder>{NUMBER})"
        rf"|{SIGN} (?P<operand>{number} [+-] (?P<more>{NUMBER})|{number}|{word}|\$[1-4]|{NUMBER}|{WORD})"
        r"))(?![^ ])"
    )


def is_number(word):
    return re.fullmatch(NUMBER, word) is not None and len(word) < 40 and abs(int(word)) <= 10 ** 30


def kind_of(word, columns):
    if word in columns:
        return columns[word]
    if re.fullmatch(WORD, word):
        return "word"
    return "number" if is_number(word) else "neither"


def fits(match, columns, parameters):
    """Whether kinds and limits of an atom are right; notes the kinds of the parameters."""
    kind = columns[match["name"]]
    if match["values"]:
        values = match["values"].split(" ")
        return len(values) <= 8 and all(kind_of(value, columns) == kind for value in values)
    if match["modulus"]:
        if kind != "number" or match["modulus"] not in "2 3 4 5 6 10 12 15 20 30 60".split():
            return False
        return is_number(match["remainder"]) and 0 <= int(match["remainder"]) < int(match["modulus"])
    if match["operand"] and match["operand"].startswith("$"):
        return parameters.setdefault(match["operand"], kind) == kind
    if match["more"]:
        return kind == "number" and is_number(match["more"]) and int(match["more"]) > 0
    return not match["operand"] or kind_of(match["operand"], columns) == kind


def is_text(columns, words):
    """Whether the words are those of a condition, if parameters may be missing."""
    if not all(re.fullmatch(r"[!-~]+", word) and word != "@" for word in words):
        return False
    found = []
    parameters = {}

    def replace(match):
        found.append(fits(match, columns, parameters))
        return "@"

    rest = atom_pattern(tuple(columns.items())).sub(replace, " ".join(words))
    if not all(found) or not 1 <= len(found) <= 8 or rest.split(" ").count("not") > 5:
        return False
    depth = 0
    for word in rest.split(" "):
        depth += {"(": 1, ")": -1}.get(word, 0)
        if depth > 5:
            return False
    before = None
    while before != rest:
        before = rest
        rest = re.sub(r"(?<![^ ])(?:not @|\( @ \)|@ (?:and|or) @)(?![^ ])", "@", rest, count=1)
    return rest == "@"


def begins(columns, words):
    """Whether the text of a condition begins with these words (or is them)."""
    ends = ENDS + [[next(iter(columns)), "is", "null"]]
    return any(is_text(columns, words + end + [")"] * k) for end in ends for k in range(6))
