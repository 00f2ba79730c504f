"""Sets of integers, as tuples of spans.

A span is a pair of its least and its greatest integer; None stands for no end.
The spans of a tuple ascend, and at least one integer lies between two of them.
"""


def compared(sign, number):
    """The integers that compare so with a number."""
    if sign == "=":
        return ((number, number),)
    if sign == "<>":
        return ((None, number - 1), (number + 1, None))
    if sign == "<":
        return ((None, number - 1),)
    if sign == "<=":
        return ((None, number),)
    if sign == ">":
        return ((number + 1, None),)
    return ((number, None),)


def gathered(numbers):
    """The spans of some integers."""
    spans = []
    for number in sorted(numbers):
        if spans and number <= spans[-1][1] + 1:
            spans[-1] = (spans[-1][0], number)
        else:
            spans.append((number, number))
    return tuple(spans)


def complement(spans):
    """The spans of all other integers."""
    others = []
    low = None
    is_open = True
    for start, end in spans:
        if start is not None:
            others.append((low, start - 1))
        is_open = end is not None
        if is_open:
            low = end + 1
    if is_open:
        others.append((low, None))
    return tuple(others)


def clipped(spans, low, high):
    """The spans of those of the integers that are from low to high."""
    clips = []
    for start, end in spans:
        start = low if start is None else max(start, low)
        end = high if end is None else min(end, high)
        if start <= end:
            clips.append((start, end))
    return tuple(clips)


def holds(spans, number):
    """Whether the integer is in one of the spans."""
    return any([
        (start is None or start <= number) and (end is None or number <= end)
        for start, end in spans
    ])


def truth_within(spans, low, high):
    """True or False if it is so whether an integer from low to high is in the spans.

    Otherwise None. The ends may be None, too; there is at least one such integer.
    """
    is_met = False
    for start, end in spans:
        if start is None or (low is not None and start <= low):
            if end is None or (high is not None and high <= end):
                return True
        is_behind = end is not None and low is not None and end < low
        is_before = start is not None and high is not None and start > high
        if not is_behind and not is_before:
            is_met = True
    return None if is_met else False
