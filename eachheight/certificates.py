"""Certificates of layers (point 12)."""

from eachheight.endings import states_after
from eachheight.specs import is_ascending
from eachheight.states import initial_state, is_state


def certificate_holds(layer, thing):
    """Return whether a value is a certificate of the layer."""
    if not isinstance(thing, tuple) or not all([is_state(layer, part) for part in thing]):
        return False
    if not is_ascending(thing) or initial_state(layer) not in thing:
        return False
    covers = _covers(thing)
    covered = {state: True for state in thing}
    for state in thing:
        for after in states_after(layer, state):
            # A bad step leaves no candidate, so no state covers what it leads to.
            if after not in covered and not _is_covered(covers, after):
                return False
            covered[after] = True
    return True


def _covers(states):
    """Return the candidates of the states by phase and configs, those with the fewest first."""
    covers = {}
    for phase, configs, candidates in sorted(states, key=lambda state: len(state[2])):
        covers.setdefault((phase, configs), []).append(candidates)
    return covers


def _is_covered(covers, state):
    phase, configs, candidates = state
    held = {candidate: True for candidate in candidates}
    for cover in covers.get((phase, configs), []):
        if len(cover) > len(held):
            return False
        if all([candidate in held for candidate in cover]):
            return True
    return False
