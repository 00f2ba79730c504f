"""Numbers and values as they are written in texts."""

from partwise.limits import MAX_MODULUS, MAX_NUMBER
from partwise.words import is_number, is_word

DIGITS = "0123456789"


def read_number(word):
    """The number that is written so, None if none is."""
    digits = word[1:] if word.startswith("-") else word
    # Python refuses to read integers of thousands of digits.
    if not 1 <= len(digits) <= len(str(MAX_NUMBER)):
        return None
    if not all([digit in DIGITS for digit in digits]):
        return None
    if digits[0] == "0" and word != "0":
        return None
    number = int(word)
    return number if is_number(number) else None


def read_value(word):
    """The number or the word that is written so, None if none is."""
    if not word.startswith("'"):
        return read_number(word)
    return word[1:] if is_word(word[1:]) else None


def value_text(value):
    """A number, a word or None as it is written."""
    if value is None:
        return "null"
    return f"'{value}" if isinstance(value, str) else str(value)


def kind_of(value):
    """The kind of a number or a word; None for None."""
    if value is None:
        return None
    return "word" if isinstance(value, str) else "number"


def is_modulus(number):
    """Whether an integer or None is a modulus of a condition or a bound."""
    return number is not None and number > 1 and MAX_MODULUS % number == 0


def is_remainder(number, modulus):
    """Whether an integer or None is a remainder of the modulus."""
    return number is not None and 0 <= number < modulus
