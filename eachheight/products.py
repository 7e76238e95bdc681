"""The product of specs (point 15).

A mode of the product is written as a row here: a tuple with one mode of each of the specs.
"""

from eachheight.tuples import one_of_each


def product_spec(specs):
    """Return the product of specs with distinct operation names."""
    rows = one_of_each([list(range(len(spec[0]))) for spec in specs])
    numbers = {row: number for number, row in enumerate(rows)}
    owners = operation_owners(specs)
    slots = [_starts(specs, row)[len(specs)] for row in rows]
    operations = [specs[k][1][index] for k, index in owners]
    cases = [
        tuple([_case(specs, numbers, row, k, index) for k, index in owners])
        for row in rows
    ]
    crashes = [_crashes(specs, numbers, row) for row in rows]
    return (tuple(slots), tuple(operations), tuple(cases), tuple(crashes))


def operation_owners(specs):
    """Return, in the order of their names, (index of the spec, index there) of all operations."""
    found = [
        (operation, k, index)
        for k, spec in enumerate(specs) for index, operation in enumerate(spec[1])
    ]
    return [(k, index) for _, k, index in sorted(found)]


def _starts(specs, row):
    """Return where the values of each spec begin in the mode of the product, and where they end."""
    starts = [0]
    for spec, mode in zip(specs, row):
        starts.append(starts[-1] + spec[0][mode])
    return starts


def _case(specs, numbers, row, k, index):
    """Return the case of an operation of spec k in the mode of the product."""
    case = specs[k][2][row[k]][index]
    return tuple(sorted([_outcome(_starts(specs, row), numbers, row, k, outcome) for outcome in case]))


def _outcome(starts, numbers, row, k, outcome):
    reply, results, after, kept = outcome
    before = tuple(range(starts[k]))
    behind = tuple(range(starts[k + 1], starts[-1]))
    return (
        reply,
        _moved(starts, k, results),
        numbers[row[:k] + (after,) + row[k + 1:]],
        before + _moved(starts, k, kept) + behind,
    )


def _moved(starts, k, references):
    """Return what references of spec k are in the product, whose arguments follow all values."""
    held = starts[k + 1] - starts[k]
    return tuple([
        starts[k] + reference if reference < held else starts[-1] + reference - held
        for reference in references
    ])


def _crashes(specs, numbers, row):
    """Return the crashes of the mode of the product: one of each spec at the same time."""
    starts = _starts(specs, row)
    choices = one_of_each([spec[3][mode] for spec, mode in zip(specs, row)])
    found = []
    for choice in choices:
        after = tuple([mode for mode, _ in choice])
        kept = [_moved(starts, k, crash[1]) for k, crash in enumerate(choice)]
        found.append((numbers[after], tuple([reference for part in kept for reference in part])))
    return tuple(sorted(found))
