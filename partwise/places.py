"""The places of values among all values of their kind, as integers.

A number is its own place. The places of the words are 0, 1, .. in their order.
"""

from partwise.limits import MAX_NUMBER

LETTERS = "abcdefghijklmnopqrstuvwxyz"

# How many words begin with the same 1, 2, .. 8 letters.
BLOCKS = (
    (26 ** 8 - 1) // 25,
    (26 ** 7 - 1) // 25,
    (26 ** 6 - 1) // 25,
    (26 ** 5 - 1) // 25,
    (26 ** 4 - 1) // 25,
    (26 ** 3 - 1) // 25,
    (26 ** 2 - 1) // 25,
    1,
)

WORDS = 26 * (26 ** 8 - 1) // 25


def ends_of(kind):
    """The least and the greatest place of a kind."""
    if kind == "number":
        return -MAX_NUMBER, MAX_NUMBER
    return 0, WORDS - 1


def place_of(value):
    """The place of a number or a word; None for None."""
    if not isinstance(value, str):
        return value
    # Each word stands behind its own beginnings.
    place = len(value) - 1
    for letter, block in zip(value, BLOCKS):
        place = place + LETTERS.find(letter) * block
    return place


def value_at(kind, place):
    """The number or the word at a place; None for None."""
    if place is None or kind == "number":
        return place
    word = ""
    for block in BLOCKS:
        word = word + LETTERS[place // block]
        place = place % block
        if place == 0:
            break
        place = place - 1
    return word
