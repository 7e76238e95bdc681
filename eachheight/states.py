"""States of a layer and their symbols (point 9)."""

from eachheight.limits import LOST
from eachheight.specs import is_any_integer, is_ascending, is_integer, is_tuple


def initial_state(layer):
    """Return the initial state."""
    return ("up", tuple([(0, ()) for _ in layer[1]]), ((0, ()),))


def is_state(layer, thing):
    """Return whether a value has the form of a state of the layer."""
    if not is_tuple(thing, 3):
        return False
    upper, lowers, _, _ = layer
    phase, configs, candidates = thing
    if phase not in ("up", "down") or not _are_configs(configs, lowers):
        return False
    return _are_candidates(candidates, upper, len(symbol_numbers(configs)))


def symbol_numbers(configs):
    """Return the number of each symbol of the configs: the order of their first occurrence."""
    numbers = {}
    for _, symbols in configs:
        for symbol in symbols:
            numbers.setdefault(symbol, len(numbers))
    return numbers


def renumbered(configs, numbers):
    """Return the configs with these numbers for their symbols, LOST for those that have none."""
    return [
        (mode, tuple([numbers.get(symbol, LOST) for symbol in symbols]))
        for mode, symbols in configs
    ]


def _are_configs(thing, specs):
    if not is_tuple(thing, len(specs)):
        return False
    if not all([_is_config(part, spec) for part, spec in zip(thing, specs)]):
        return False
    numbers = symbol_numbers(thing)
    return all([symbol == numbers[symbol] for symbol in numbers])


def _are_candidates(thing, upper, count):
    if not isinstance(thing, tuple) or not thing:
        return False
    if not all([_is_config(part, upper) for part in thing]):
        return False
    if not all([LOST <= symbol < count for _, symbols in thing for symbol in symbols]):
        return False
    return is_ascending(thing)


def _is_config(thing, spec):
    """Return whether a value is a mode of the spec and an integer for each of its slots."""
    slots = spec[0]
    if not is_tuple(thing, 2) or not is_integer(thing[0], 0, len(slots) - 1):
        return False
    mode, symbols = thing
    return is_tuple(symbols, slots[mode]) and all([is_any_integer(part) for part in symbols])
