"""Names, values and specs (points 4 and 5)."""

from eachheight.chains import are_transitive

LETTERS = "abcdefghijklmnopqrstuvwxyz"
NAME_LENGTH = 8
GREATEST_VALUE = 1000000000
SLOT_LIMIT = 12
ARITY_LIMIT = 2
RESULT_LIMIT = 2


def is_name(thing):
    """Return whether a value is a name."""
    if not isinstance(thing, str) or not 1 <= len(thing) <= NAME_LENGTH:
        return False
    return all([letter in LETTERS for letter in thing])


def is_value(thing):
    """Return whether a value is a value of a slot, an argument or a result."""
    return is_integer(thing, 0, GREATEST_VALUE)


def is_spec(thing):
    """Return whether a value is a spec."""
    if not is_tuple(thing, 4):
        return False
    slots, operations, cases, crashes = thing
    return (
        _are_slots(slots)
        and _are_operations(operations)
        and _are_cases(cases, slots, operations)
        and _have_steady_results(cases)
        and _are_crashes(crashes, slots)
        and are_transitive(crashes)
    )


def are_values(thing, count):
    """Return whether a value is a tuple of this many values of slots, arguments or results."""
    return is_tuple(thing, count) and all([is_value(part) for part in thing])


def operation_index(spec, op):
    """Return which operation of the spec has this name."""
    return [operation[0] for operation in spec[1]].index(op)


def is_integer(thing, low, high):
    """Return whether a value is an integer from low to high."""
    return is_any_integer(thing) and low <= thing <= high


def is_any_integer(thing):
    """Return whether a value is an integer. True and False are equal to integers, but are none."""
    return isinstance(thing, int) and not isinstance(thing, bool)


def is_tuple(thing, length):
    """Return whether a value is a tuple of this length."""
    return isinstance(thing, tuple) and len(thing) == length


def is_ascending(things):
    """Return whether each part of a sequence of comparable parts is less than the next one."""
    return all([low < high for low, high in zip(things, things[1:])])


def _are_slots(thing):
    if not isinstance(thing, tuple) or not thing:
        return False
    return all([is_integer(count, 0, SLOT_LIMIT) for count in thing]) and thing[0] == 0


def _are_operations(thing):
    if not isinstance(thing, tuple) or not all([_is_operation(part) for part in thing]):
        return False
    # Names alone: they are distinct, so arities never decide the order.
    return is_ascending([name for name, arity in thing])


def _is_operation(thing):
    return is_tuple(thing, 2) and is_name(thing[0]) and is_integer(thing[1], 0, ARITY_LIMIT)


def _are_cases(thing, slots, operations):
    if not is_tuple(thing, len(slots)):
        return False
    return all([_is_row(row, slots, held, operations) for row, held in zip(thing, slots)])


def _is_row(thing, slots, held, operations):
    if not is_tuple(thing, len(operations)):
        return False
    pairs = list(zip(thing, operations))
    return all([_is_case(case, slots, held + operation[1]) for case, operation in pairs])


def _is_case(thing, slots, references):
    if not isinstance(thing, tuple) or not thing:
        return False
    return all([_is_outcome(part, slots, references) for part in thing]) and is_ascending(thing)


def _is_outcome(thing, slots, references):
    if not is_tuple(thing, 4):
        return False
    reply, results, mode, kept = thing
    return (
        is_name(reply)
        and _are_references(results, references)
        and len(results) <= RESULT_LIMIT
        and _is_target(mode, kept, slots, references)
    )


def _is_target(mode, kept, slots, references):
    if not is_integer(mode, 0, len(slots) - 1):
        return False
    return _are_references(kept, references) and len(kept) == slots[mode]


def _are_references(thing, references):
    if not isinstance(thing, tuple):
        return False
    return all([is_integer(part, 0, references - 1) for part in thing])


def _have_steady_results(cases):
    """Return whether each reply of an operation has one number of results in all modes."""
    counts = {}
    for row in cases:
        for index, case in enumerate(row):
            for reply, results, _, _ in case:
                if counts.setdefault((index, reply), len(results)) != len(results):
                    return False
    return True


def _are_crashes(thing, slots):
    if not is_tuple(thing, len(slots)):
        return False
    return all([_is_entry(entry, slots, held) for entry, held in zip(thing, slots)])


def _is_entry(thing, slots, held):
    if not isinstance(thing, tuple) or not thing:
        return False
    return all([_is_crash(part, slots, held) for part in thing]) and is_ascending(thing)


def _is_crash(thing, slots, held):
    return is_tuple(thing, 2) and _is_target(thing[0], thing[1], slots, held)
