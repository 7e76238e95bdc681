"""Certificates of layers (point 12)."""

from eachheight.endings import steps_by_state
from eachheight.specs import is_ascending
from eachheight.states import initial_state, is_state


def certificate_holds(layer, thing):
    """Return whether a value is a certificate of the layer."""
    if not isinstance(thing, tuple) or not all([is_state(layer, part) for part in thing]):
        return False
    if not is_ascending(thing) or initial_state(layer) not in thing:
        return False
    cover = Cover()
    for state in sorted(thing, key=_candidate_count):
        cover.include(state)
    for state in thing:
        # A bad step leaves no candidate, so no state covers what it leads to. And nothing covers
        # more different configs than there are states.
        steps = steps_by_state(layer, state, len(thing))
        if steps is None or not all([cover.covers(after) for after in steps]):
            return False
    return True


def _candidate_count(state):
    return len(state[2])


class Cover:
    """States, and whether one of them covers the state after a step.

    It does if it has the same phase and configs, and some of the same candidates, but no other ones.
    """

    def __init__(self):
        self.groups = {}
        self.known = {}

    def include(self, state):
        """Add a state."""
        phase, configs, candidates = state
        self.groups.setdefault((phase, configs), []).append(candidates)
        self.known[state] = True

    def covers(self, state):
        """Return whether one of the states covers this one."""
        if state in self.known:
            return True
        phase, configs, candidates = state
        held = {candidate: True for candidate in candidates}
        for fewer in self.groups.get((phase, configs), []):
            if len(fewer) <= len(held) and all([candidate in held for candidate in fewer]):
                # What is covered can be reached again and again. It may as well cover others.
                self.known[state] = True
                return True
        return False
