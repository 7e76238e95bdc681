"""What several lower specs hold after a step (point 10).

It is written as (configs, pairs) here: the configs with renumbered symbols, and the symbols with
their new numbers, ascending.
"""

from eachheight.runs import listed_crashes
from eachheight.states import renumbered, symbol_numbers


def settled_configs(configs):
    """Return what the lower specs hold if they do not crash."""
    numbers = symbol_numbers(configs)
    return (tuple(renumbered(configs, numbers)), tuple(sorted(numbers.items())))


def ways_to_crash(lowers, configs, wanted, limit):
    """Return all that a crash may leave, without the symbols that are not wanted, each with a crash choice.

    Return None if these are more than `limit` different configs.
    """
    # There may be far too many choices. So the specs crash one by one, and what differs only in
    # symbols that are not wanted, nor held by a spec that comes later, is followed once.
    found = {((), 0, ()): ()}
    for at, (lower, config) in enumerate(zip(lowers, configs)):
        used = symbol_numbers(configs[at + 1:])
        used.update(wanted)
        results = listed_crashes(lower, config)
        longer = {}
        for left, choice in found.items():
            for index, result in enumerate(results):
                longer.setdefault(_with_next(left, result, used), choice + (index,))
        found = longer
        # Whatever comes behind them, different configs stay different.
        if len(set([row for row, _, _ in found])) > limit:
            return None
    return {(row, pairs): choice for (row, _, pairs), choice in found.items()}


def _with_next(left, config, used):
    """Add the next config to what is left; `left` also has the number that the next symbol gets."""
    row, count, pairs = left
    mode, symbols = config
    numbers = dict(pairs)
    for symbol in symbols:
        if symbol not in numbers:
            numbers[symbol] = count
            count += 1
    config = (mode, tuple([numbers[symbol] for symbol in symbols]))
    return (row + (config,), count, tuple([pair for pair in sorted(numbers.items()) if pair[0] in used]))
