"""How steps end, and the states to which they lead (point 10).

An ending is (event, phase, configs): the event of the upper spec, and the phase and the configs of
the lower specs after the step, ahead of the renumbering. All that a step does is in its ending.
"""

from eachheight.crashing import settled_configs, ways_to_crash
from eachheight.moments import UNHANDLED, distinct_moments, first_moment, is_over, symbols_of
from eachheight.runs import configs_after
from eachheight.states import renumbered, symbol_numbers

CRASH = ("crash",)
# These stand for the event of a step that leaves the candidates as they are, and of one that
# ends with an unhandled reply, which leaves none.
NO_EVENT = ("none",)
FAILURE = ("failure",)


def tasks_from(layer, state):
    """Return a task for each program that may run from the state.

    A task is (whole, broken, program, first, arguments): how a step begins in which the program
    runs to its end, and one in which it does not, and its first moment, with what arguments.
    """
    upper, _, programs, recovery = layer
    phase, configs, _ = state
    if phase == "down":
        return [_task(("recover",), ("recrash",), recovery, (), configs)]
    new = len(symbol_numbers(configs))
    return [
        _task(("done", op), ("cut", op), program, tuple(range(new, new + arity)), configs)
        for (op, arity), program in zip(upper[1], programs)
    ]


def whole_ending(task, moment):
    """Return the ending of a step in which the program of the task is over at this moment."""
    whole, _, program, _, arguments = task
    place, variables, configs = moment
    if place == UNHANDLED:
        return (FAILURE, "up", configs)
    if program[place][0] == "up":
        return (NO_EVENT, "up", configs)
    _, reply, inputs = program[place]
    return (whole + (arguments, reply, symbols_of(variables, inputs)), "up", configs)


def crash_event(task):
    """Return the event of a step in which everything crashes while the program of the task runs."""
    _, broken, _, _, arguments = task
    return NO_EVENT if broken == ("recrash",) else broken + (arguments,)


def state_after(layer, state, ending):
    """Return the state after a step with this ending, without candidates if the step is bad."""
    event, phase, before = ending
    configs, pairs = settled_configs(before)
    return (phase, configs, _settled(_candidates_after(layer, state, event), dict(pairs)))


def steps_by_state(layer, state, limit):
    """Return the states after all steps from the state, as state_after does, each with a step to it.

    Return None if there are more than `limit` of them with different configs, after one crash alone.
    """
    followers = Followers(layer, state)
    crashes = {(CRASH, state[1]): ("crash",)} if state[0] == "up" else {}
    for task in tasks_from(layer, state):
        whole, broken, program, first, _ = task
        for path, moment in distinct_moments(layer[1], program, first):
            crashes.setdefault((crash_event(task), moment[2]), broken + (path,))
            if is_over(program, moment):
                event, _, configs = whole_ending(task, moment)
                followers.include(event, "up", settled_configs(configs), whole + (path,))
    for (event, configs), beginning in crashes.items():
        ways = ways_to_crash(layer[1], configs, followers.symbols(event), limit)
        if ways is None:
            return None
        for left, choice in ways.items():
            followers.include(event, "down", left, beginning + (choice,))
    return followers.steps


class Followers:
    """The states that steps from a state lead to, each with one of these steps."""

    def __init__(self, layer, state):
        self.layer = layer
        self.state = state
        # Most steps share their event and their numbers of symbols, all that candidates depend on.
        self.by_event = {}
        self.by_numbers = {}
        self.steps = {}

    def include(self, event, phase, left, step):
        """Add the state after a step with this event; `left` has the configs and numbers of symbols."""
        configs, pairs = left
        if (event, pairs) not in self.by_numbers:
            self.by_numbers[(event, pairs)] = _settled(self._candidates(event), dict(pairs))
        self.steps.setdefault((phase, configs, self.by_numbers[(event, pairs)]), step)

    def symbols(self, event):
        """Return the symbols of the candidates after the event."""
        return symbol_numbers(self._candidates(event))

    def _candidates(self, event):
        if event not in self.by_event:
            self.by_event[event] = _candidates_after(self.layer, self.state, event)
        return self.by_event[event]


def _task(whole, broken, program, arguments, configs):
    return (whole, broken, program, first_moment(program, arguments, configs), arguments)


def _candidates_after(layer, state, event):
    """Return the candidates after the event, ahead of the renumbering."""
    if event == NO_EVENT:
        return state[2]
    return () if event == FAILURE else configs_after(layer[0], state[2], event)


def _settled(candidates, numbers):
    return tuple(sorted(set(renumbered(candidates, numbers))))
