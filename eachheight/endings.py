"""How steps end, and the states to which they lead (point 10).

An ending is (event, phase, configs): the event of the upper spec, and the phase and the configs of
the lower specs after the step, ahead of the renumbering. All that a step does is in its ending.
"""

from eachheight.moments import UNHANDLED, distinct_moments, first_moment, is_over, symbols_of
from eachheight.runs import configs_after, crash_results
from eachheight.states import renumbered, symbol_numbers

CRASH = ("crash",)
# These stand for the event of a step that leaves the candidates as they are, and of one that
# ends with an unhandled reply, which leaves none.
NO_EVENT = ("none",)
FAILURE = ("failure",)


def tasks_from(layer, state):
    """Return a task for each program that may run from the state.

    A task is (whole, broken, program, first, arguments): how a step begins in which the program
    runs to its end, and one in which it does not, and its first moment, with what arguments.
    """
    upper, _, programs, recovery = layer
    phase, configs, _ = state
    if phase == "down":
        return [_task(("recover",), ("recrash",), recovery, (), configs)]
    new = len(symbol_numbers(configs))
    return [
        _task(("done", op), ("cut", op), program, tuple(range(new, new + arity)), configs)
        for (op, arity), program in zip(upper[1], programs)
    ]


def whole_ending(task, moment):
    """Return the ending of a step in which the program of the task is over at this moment."""
    whole, _, program, _, arguments = task
    place, variables, configs = moment
    if place == UNHANDLED:
        return (FAILURE, "up", configs)
    if program[place][0] == "up":
        return (NO_EVENT, "up", configs)
    _, reply, inputs = program[place]
    return (whole + (arguments, reply, symbols_of(variables, inputs)), "up", configs)


def crash_event(task):
    """Return the event of a step in which everything crashes while the program of the task runs."""
    _, broken, _, _, arguments = task
    return NO_EVENT if broken == ("recrash",) else broken + (arguments,)


def state_after(layer, state, ending):
    """Return the state after a step with this ending, without candidates if the step is bad."""
    event, phase, configs = ending
    numbers = symbol_numbers(configs)
    candidates = _candidates_after(layer, state, event)
    return (phase, tuple(renumbered(configs, numbers)), _settled(candidates, numbers))


def states_after(layer, state):
    """Return the states after all steps from the state, each once, as state_after does."""
    # Most steps share their event and the order of their symbols, all that candidates depend on.
    by_event = {}
    by_order = {}
    found = {}
    for event, phase, configs in _endings_from(layer, state):
        numbers = symbol_numbers(configs)
        order = (event, tuple(numbers))
        if event not in by_event:
            by_event[event] = _candidates_after(layer, state, event)
        if order not in by_order:
            by_order[order] = _settled(by_event[event], numbers)
        found[(phase, tuple(renumbered(configs, numbers)), by_order[order])] = True
    return list(found)


def one_of_each(rows):
    """Return all tuples with one part of each row."""
    found = [()]
    for row in rows:
        found = [start + (part,) for start in found for part in row]
    return found


def _task(whole, broken, program, arguments, configs):
    return (whole, broken, program, first_moment(program, arguments, configs), arguments)


def _endings_from(layer, state):
    """Return the endings of all steps from the state, each once."""
    phase, configs, _ = state
    lowers = layer[1]
    crashes = {(CRASH, configs): True} if phase == "up" else {}
    found = {}
    for task in tasks_from(layer, state):
        _, _, program, first, _ = task
        for moment in distinct_moments(lowers, program, first):
            crashes[(crash_event(task), moment[2])] = True
            if is_over(program, moment):
                found[whole_ending(task, moment)] = True
    for event, before in crashes:
        rows = [crash_results(lower, config) for lower, config in zip(lowers, before)]
        for after in one_of_each(rows):
            found[(event, "down", after)] = True
    return list(found)


def _candidates_after(layer, state, event):
    """Return the candidates after the event, ahead of the renumbering."""
    if event == NO_EVENT:
        return state[2]
    return () if event == FAILURE else configs_after(layer[0], state[2], event)


def _settled(candidates, numbers):
    return tuple(sorted(set(renumbered(candidates, numbers))))
