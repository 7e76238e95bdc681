"""Steps from a state, and the state after a step (points 10 and 11)."""

from eachheight.endings import CRASH, crash_event, state_after, tasks_from, whole_ending
from eachheight.errors import BadStep, NoSuchStep
from eachheight.moments import is_over, moment_on_path, moments_by_path
from eachheight.runs import listed_crashes
from eachheight.specs import is_integer, is_tuple
from eachheight.tuples import one_of_each


def steps_from(layer, state):
    """Return all steps from the state, ascending, bad ones included."""
    phase, configs, _ = state
    lowers = layer[1]
    steps = []
    if phase == "up":
        steps = [("crash", choice) for choice in _crash_choices(lowers, configs)]
    for whole, broken, program, first, _ in tasks_from(layer, state):
        for path, moment in moments_by_path(lowers, program, first):
            if is_over(program, moment):
                steps.append(whole + (path,))
            steps.extend([broken + (path, choice) for choice in _crash_choices(lowers, moment[2])])
    return tuple(sorted(steps))


def apply_step(layer, state, step):
    """Return the state after the step."""
    ending = _ending_of(layer, state, step)
    if ending is None:
        raise NoSuchStep(step)
    after = state_after(layer, state, ending)
    if not after[2]:
        raise BadStep(step)
    return after


def _crash_choices(lowers, configs):
    counts = [len(lower[3][config[0]]) for lower, config in zip(lowers, configs)]
    return one_of_each([list(range(count)) for count in counts])


def _ending_of(layer, state, step):
    """Return the ending of the step, or None for a value that is not a step from the state."""
    phase, configs, _ = state
    if phase == "up" and is_tuple(step, 2) and step[0] == "crash":
        return _crash_ending(layer, CRASH, configs, step[1])
    for task in tasks_from(layer, state):
        whole, broken, _, _, _ = task
        size = len(whole)
        if is_tuple(step, size + 1) and step[:size] == whole:
            return _whole_ending_of(layer, task, step[size])
        if is_tuple(step, size + 2) and step[:size] == broken:
            return _broken_ending_of(layer, task, step[size], step[size + 1])
    return None


def _whole_ending_of(layer, task, path):
    _, _, program, first, _ = task
    moment = moment_on_path(layer[1], program, first, path)
    if moment is None or not is_over(program, moment):
        return None
    return whole_ending(task, moment)


def _broken_ending_of(layer, task, path, choice):
    _, _, program, first, _ = task
    moment = moment_on_path(layer[1], program, first, path)
    if moment is None:
        return None
    return _crash_ending(layer, crash_event(task), moment[2], choice)


def _crash_ending(layer, event, configs, choice):
    """Return the ending of a crash by the choice, which may be any value, or None if it is none."""
    lowers = layer[1]
    if not is_tuple(choice, len(lowers)):
        return None
    after = []
    for lower, config, index in zip(lowers, configs, choice):
        results = listed_crashes(lower, config)
        if not is_integer(index, 0, len(results) - 1):
            return None
        after.append(results[index])
    return (event, "down", tuple(after))
