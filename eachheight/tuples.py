"""Tuples that are put together from rows."""


def one_of_each(rows):
    """Return all tuples with one part of each row, ascending if the rows are."""
    found = [()]
    for row in rows:
        found = [start + (part,) for start in found for part in row]
    return found
