"""Programs that run over plain lower specs, from call to call (points 8 and 10).

A moment is (place, variables, configs): the index of the "call", "return" or "up" that comes next,
the variables that are set and their symbols, as ascending pairs, and the configs of the lower specs.
"""

from eachheight.layers import variables_read
from eachheight.runs import listed_outcomes
from eachheight.specs import is_integer

# The place of a program behind a reply that it does not handle; no variables are kept there.
UNHANDLED = -1


def first_moment(program, arguments, configs):
    """Return the first moment of a program that starts with these arguments."""
    return _moment_from(program, 0, dict(enumerate(arguments)), configs)


def is_over(program, moment):
    """Return whether no call comes next: the program is at an end, or a reply was unhandled."""
    place = moment[0]
    return place == UNHANDLED or program[place][0] != "call"


def next_call(program, moment):
    """Return (k, op, arguments) of the call that comes next."""
    place, variables, _ = moment
    _, k, op, inputs, _ = program[place]
    return (k, op, symbols_of(variables, inputs))


def next_outcomes(lowers, program, moment):
    """Return the outcomes of the call that comes next, in the order of its case, or none at an end."""
    if is_over(program, moment):
        return []
    k, op, arguments = next_call(program, moment)
    return listed_outcomes(lowers[k], moment[2][k], op, arguments)


def moment_behind(program, moment, outcome):
    """Return the moment behind the call that comes next, if it has this outcome."""
    reply, results, config = outcome
    place, _, configs = moment
    k = program[place][1]
    return resumed(program, moment, reply, results, configs[:k] + (config,) + configs[k + 1:])


def resumed(program, moment, reply, results, configs):
    """Return the moment behind the call that comes next, if it gets this reply and leaves these configs."""
    place, variables, _ = moment
    for handled, outputs, target in program[place][4]:
        # A layer below may return a reply with more or fewer results than its spec says.
        if handled == reply and len(outputs) == len(results):
            return _moment_from(program, target, _stored(dict(variables), outputs, results), configs)
    return (UNHANDLED, (), configs)


def symbols_of(variables, inputs):
    """Return the symbols that the inputs have among these variables."""
    held = dict(variables)
    return tuple([held[variable] for variable in inputs])


def moments_by_path(lowers, program, first):
    """Return (path, moment) for all paths from the first moment, however far they lead."""
    found = []
    waiting = [((), first)]
    while waiting:
        path, moment = waiting.pop()
        found.append((path, moment))
        waiting.extend(_longer_paths(lowers, program, path, moment))
    return found


def moment_on_path(lowers, program, first, path):
    """Return the moment behind a path, which may be any value, or None if there is no such path."""
    if not isinstance(path, tuple):
        return None
    moment = first
    for index in path:
        outcomes = next_outcomes(lowers, program, moment)
        if not is_integer(index, 0, len(outcomes) - 1):
            return None
        moment = moment_behind(program, moment, outcomes[index])
    return moment


def distinct_moments(lowers, program, first):
    """Return (path, moment) as moments_by_path does, but only one of those from which all goes on alike."""
    # Without this, a few calls with several outcomes each would have far too many paths.
    last_reads = _last_reads(program)
    found = {}
    waiting = [((), first)]
    while waiting:
        path, moment = waiting.pop()
        place, variables, configs = moment
        kept = tuple([pair for pair in variables if pair[0] in last_reads and last_reads[pair[0]] >= place])
        if (place, kept, configs) not in found:
            found[(place, kept, configs)] = (path, moment)
            waiting.extend(_longer_paths(lowers, program, path, moment))
    return list(found.values())


def _longer_paths(lowers, program, path, moment):
    """Return (path, moment) behind each outcome of the call that comes next."""
    outcomes = next_outcomes(lowers, program, moment)
    return [
        (path + (index,), moment_behind(program, moment, outcome))
        for index, outcome in enumerate(outcomes)
    ]


def _last_reads(program):
    """Return, for each variable, the index of the last instruction that reads it."""
    last = {}
    for place, instruction in enumerate(program):
        for variable in variables_read(instruction):
            last[variable] = place
    return last


def _moment_from(program, place, held, configs):
    """Return the moment to which moves and jumps lead from this instruction."""
    while program[place][0] in ("move", "jump"):
        if program[place][0] == "jump":
            place = program[place][1]
        else:
            _, outputs, inputs = program[place]
            held = _stored(held, outputs, [held[variable] for variable in inputs])
            place += 1
    return (place, tuple(sorted(held.items())), configs)


def _stored(held, outputs, symbols):
    stored = dict(held)
    for variable, symbol in zip(outputs, symbols):
        stored[variable] = symbol
    return stored
