"""Whether a certificate fits all that a layer may find when it is swapped in (point 19)."""

from eachheight.limits import LOST
from eachheight.tuples import one_of_each


def first_uncovered(certificate, rows, candidates):
    """Return the first tuple of configs, one of each row, that no state fits, or None.

    The rows are the candidates of the children, and `candidates` those of the node.
    """
    states = _states_by_modes(certificate)
    patterns = _patterns_of(states, candidates)
    for configs in one_of_each(rows):
        modes = tuple([mode for mode, _ in configs])
        if not _some_fits(states.get(modes, []), configs, patterns):
            return configs
    return None


def _states_by_modes(certificate):
    """Return (configs, candidates) of the states that are up, by their modes."""
    found = {}
    for phase, configs, candidates in certificate:
        if phase == "up":
            modes = tuple([mode for mode, _ in configs])
            found.setdefault(modes, []).append((configs, candidates))
    return found


def _patterns_of(states, candidates):
    """Return the candidates of the node with None wherever a state may have LOST something."""
    gaps = {}
    for group in states.values():
        for _, expected in group:
            for mode, symbols in expected:
                gaps[(mode, tuple([symbol == LOST for symbol in symbols]))] = True
    patterns = {}
    for expected, lost in gaps:
        for mode, values in candidates:
            if mode == expected:
                row = [None if gone else value for gone, value in zip(lost, values)]
                patterns[(mode, tuple(row))] = True
    return patterns


def _some_fits(states, configs, patterns):
    for symbolic, candidates in states:
        if _fits(symbolic, candidates, configs, patterns):
            return True
    return False


def _fits(symbolic, candidates, configs, patterns):
    """Return whether a state with these configs and candidates fits; the modes of the configs agree."""
    values = {}
    for (_, symbols), (_, given) in zip(symbolic, configs):
        for symbol, value in zip(symbols, given):
            if values.setdefault(symbol, value) != value:
                return False
    for mode, symbols in candidates:
        # LOST has no value, so None stands in its place, as in the patterns.
        if (mode, tuple([values.get(symbol) for symbol in symbols])) not in patterns:
            return False
    return True
