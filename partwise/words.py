"""What is a number, a word, a name. Each question takes any value."""

from partwise.limits import MAX_LETTERS, MAX_NUMBER

# These words have a meaning of their own in conditions or statements.
RESERVED = (
    "and", "or", "not", "is", "null", "in", "rest", "to", "of", "into", "by",
    "where", "set", "add", "columns", "order", "limit",
)


def is_number(value):
    """Whether the value is an integer within the limits."""
    # Python counts True and False among the integers, the package does not.
    if isinstance(value, bool) or not isinstance(value, int):
        return False
    return -MAX_NUMBER <= value <= MAX_NUMBER


def is_word(value):
    """Whether the value is a string of a few letters from a to z."""
    if not isinstance(value, str) or not 1 <= len(value) <= MAX_LETTERS:
        return False
    return all(["a" <= letter <= "z" for letter in value])


def is_name(value):
    """Whether the value may name a column, a table or a check."""
    return is_word(value) and value not in RESERVED
