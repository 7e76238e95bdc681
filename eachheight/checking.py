"""The check of a single layer (points 3, 12 and 13)."""

from eachheight.certificates import Cover
from eachheight.endings import steps_by_state
from eachheight.errors import TooManyStates
from eachheight.limits import MAX_STATES
from eachheight.states import initial_state


def check_layer(layer, *, max_states=MAX_STATES):
    """Return ("valid", certificate) or ("invalid", counterexample), whichever the layer has."""
    first = initial_state(layer)
    found = [first]
    origins = {first: None}
    cover = Cover()
    cover.include(first)
    at = 0
    while at < len(found):
        state = found[at]
        at += 1
        steps = steps_by_state(layer, state, max_states)
        # Steps that end with a crash are not bad.
        if steps is None:
            raise TooManyStates(max_states)
        for after, step in steps.items():
            if not after[2]:
                return ("invalid", _steps_to(origins, state) + (step,))
            # What is bad behind a state is bad behind one that covers it, too, so that one is enough.
            if not cover.covers(after):
                if len(found) == max_states:
                    raise TooManyStates(max_states)
                found.append(after)
                origins[after] = (state, step)
                cover.include(after)
    return ("valid", tuple(sorted(found)))


def _steps_to(origins, state):
    """Return the steps from the initial state to this one; an origin is the state before and a step."""
    steps = []
    origin = origins[state]
    while origin is not None:
        before, step = origin
        steps.append(step)
        origin = origins[before]
    return tuple(reversed(steps))
