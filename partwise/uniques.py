"""Keys, whose values no two rows have; a row with None among them has no key."""


def key_of(schema, columns, row):
    """The values of the columns in a row, None if one of them is None."""
    values = tuple([row[schema.names.index(name)] for name in columns])
    return None if None in values else values


def least_duplicate(schema, uniques, rows, chosen):
    """The first of the chosen rows whose key another row has, too; None if there is none.

    The chosen rows are among the rows.
    """
    tallies = [(columns, _tally(schema, columns, rows)) for columns in uniques]
    for row in chosen:
        for columns, tally in tallies:
            key = key_of(schema, columns, row)
            if key is not None and tally[key] > 1:
                return row
    return None


def _tally(schema, columns, rows):
    """How often each key occurs."""
    tally = {}
    for row in rows:
        key = key_of(schema, columns, row)
        tally[key] = tally.get(key, 0) + 1
    return tally
