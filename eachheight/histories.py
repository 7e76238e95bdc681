"""Histories of specs (point 7)."""

from eachheight.specs import RESULT_LIMIT, are_values, is_name


def is_history(spec, thing):
    """Return whether a value is a history of the spec."""
    if not isinstance(thing, tuple):
        return False
    arities = {name: arity for name, arity in spec[1]}
    return all([_is_event(arities, part) for part in thing])


def _is_event(arities, thing):
    if not isinstance(thing, tuple) or not thing:
        return False
    if thing[0] == "crash":
        return len(thing) == 1
    if thing[0] == "cut":
        return len(thing) == 3 and _is_call(arities, thing[1], thing[2])
    if thing[0] != "done" or len(thing) != 5:
        return False
    _, op, arguments, reply, results = thing
    return _is_call(arities, op, arguments) and is_name(reply) and _are_results(results)


def _is_call(arities, op, arguments):
    return isinstance(op, str) and op in arities and are_values(arguments, arities[op])


def _are_results(thing):
    return any([are_values(thing, count) for count in range(RESULT_LIMIT + 1)])
