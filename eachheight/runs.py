"""Configs of a spec and runs of histories (points 6 and 7)."""

from eachheight.specs import are_values, is_integer, is_tuple, operation_index

START = (0, ())


def outcomes_at(spec, config, op, arguments):
    """Return (reply, results, next config) of all outcomes of the operation, ascending."""
    return tuple(sorted(set(listed_outcomes(spec, config, op, arguments))))


def listed_outcomes(spec, config, op, arguments):
    """Return (reply, results, next config) of each outcome of the operation, in the order of the case."""
    mode, values = config
    held = values + arguments
    case = spec[2][mode][operation_index(spec, op)]
    return [
        (reply, _picked(held, results), (after, _picked(held, kept)))
        for reply, results, after, kept in case
    ]


def crash_results(spec, config):
    """Return the configs to which a crash may lead, ascending."""
    return tuple(sorted(set(listed_crashes(spec, config))))


def listed_crashes(spec, config):
    """Return the config to which each crash of the mode leads, in the order of the spec."""
    mode, values = config
    return [(after, _picked(values, kept)) for after, kept in spec[3][mode]]


def possible_configs(spec, history):
    """Return the configs in which runs of the history end, ascending."""
    configs = (START,)
    for event in history:
        configs = configs_after(spec, configs, event)
    return configs


def find_run(spec, history):
    """Return a run of the history, or None if there is none."""
    configs = [START]
    origins = []
    for event in history:
        origin = {}
        for config in configs:
            for after in next_configs(spec, config, event):
                origin[after] = config
        if not origin:
            return None
        origins.append(origin)
        configs = list(origin)
    return _traced(configs[0], origins)


def run_holds(spec, history, thing):
    """Return whether a value is a run of the history."""
    if not is_tuple(thing, len(history)):
        return False
    config = START
    for event, after in zip(history, thing):
        if not is_config(spec, after) or after not in next_configs(spec, config, event):
            return False
        config = after
    return True


def is_config(spec, thing):
    """Return whether a value is a config of the spec."""
    slots = spec[0]
    if not is_tuple(thing, 2) or not is_integer(thing[0], 0, len(slots) - 1):
        return False
    mode, values = thing
    return are_values(values, slots[mode])


def configs_after(spec, configs, event):
    """Return the configs to which the event leads from any of the configs, ascending."""
    found = [after for config in configs for after in next_configs(spec, config, event)]
    return tuple(sorted(set(found)))


def next_configs(spec, config, event):
    """Return the configs to which the event leads from the config, some perhaps more than once."""
    if event[0] == "done":
        return _configs_done(spec, config, event)
    if event[0] == "cut":
        return _configs_cut(spec, config, event)
    return crash_results(spec, config)


def _configs_done(spec, config, event):
    _, op, arguments, reply, results = event
    outcomes = outcomes_at(spec, config, op, arguments)
    return [after for said, given, after in outcomes if said == reply and given == results]


def _configs_cut(spec, config, event):
    _, op, arguments = event
    outcomes = outcomes_at(spec, config, op, arguments)
    # The crash may have come before the call took effect.
    before_crash = [config] + [after for _, _, after in outcomes]
    return [result for before in before_crash for result in crash_results(spec, before)]


def _traced(config, origins):
    """Return the configs from the first event to this last config, found from behind."""
    run = []
    for origin in reversed(origins):
        run.append(config)
        config = origin[config]
    return tuple(reversed(run))


def _picked(values, references):
    return tuple([values[reference] for reference in references])
