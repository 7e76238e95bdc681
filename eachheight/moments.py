"""Programs that run over plain lower specs, from call to call (points 8 and 10).

A moment is (place, variables, configs): the index of the "call", "return" or "up" that comes next,
the variables that are set and their symbols, as ascending pairs, and the configs of the lower specs.
"""

from eachheight.layers import variables_read
from eachheight.runs import listed_outcomes
from eachheight.specs import is_integer

# The place of a program behind a reply that it does not handle; no variables are kept there.
UNHANDLED = -1


def first_moment(program, arguments, configs):
    """Return the first moment of a program that starts with these arguments."""
    return _moment_from(program, 0, dict(enumerate(arguments)), configs)


def is_over(program, moment):
    """Return whether no call comes next: the program is at an end, or a reply was unhandled."""
    place = moment[0]
    return place == UNHANDLED or program[place][0] != "call"


def next_moments(lowers, program, moment):
    """Return the moment behind each outcome of the call that comes next, in the order of its case."""
    if is_over(program, moment):
        return []
    place, variables, configs = moment
    _, k, op, inputs, _ = program[place]
    outcomes = listed_outcomes(lowers[k], configs[k], op, symbols_of(variables, inputs))
    return [_moment_behind(program, moment, outcome) for outcome in outcomes]


def symbols_of(variables, inputs):
    """Return the symbols that the inputs have among these variables."""
    held = dict(variables)
    return tuple([held[variable] for variable in inputs])


def moments_by_path(lowers, program, first):
    """Return (path, moment) for all paths from the first moment, however far they lead."""
    found = []
    waiting = [((), first)]
    while waiting:
        path, moment = waiting.pop()
        found.append((path, moment))
        behind = next_moments(lowers, program, moment)
        waiting.extend([(path + (index,), after) for index, after in enumerate(behind)])
    return found


def moment_on_path(lowers, program, first, path):
    """Return the moment behind a path, which may be any value, or None if there is no such path."""
    if not isinstance(path, tuple):
        return None
    moment = first
    for index in path:
        behind = next_moments(lowers, program, moment)
        if not is_integer(index, 0, len(behind) - 1):
            return None
        moment = behind[index]
    return moment


def distinct_moments(lowers, program, first):
    """Return the moments of all paths, but only one of those from which all goes on alike."""
    # Without this, a few calls with several outcomes each would have far too many paths.
    needed = _needed_variables(program)
    found = {}
    waiting = [first]
    while waiting:
        moment = waiting.pop()
        place, variables, configs = moment
        kept = tuple([pair for pair in variables if pair[0] in needed[place]])
        if (place, kept, configs) not in found:
            found[(place, kept, configs)] = moment
            waiting.extend(next_moments(lowers, program, moment))
    return list(found.values())


def _needed_variables(program):
    """Return, for each instruction, the variables that it or a later one reads."""
    needed = []
    read = {}
    for instruction in reversed(program):
        read = dict(read)
        for variable in variables_read(instruction):
            read[variable] = True
        needed.append(read)
    return list(reversed(needed))


def _moment_behind(program, moment, outcome):
    """Return the moment behind the call that comes next, if it has this outcome."""
    place, variables, configs = moment
    reply, results, config = outcome
    _, k, _, _, branches = program[place]
    changed = configs[:k] + (config,) + configs[k + 1:]
    for handled, outputs, target in branches:
        if handled == reply:
            return _moment_from(program, target, _stored(dict(variables), outputs, results), changed)
    return (UNHANDLED, (), changed)


def _moment_from(program, place, held, configs):
    """Return the moment to which moves and jumps lead from this instruction."""
    while program[place][0] in ("move", "jump"):
        if program[place][0] == "jump":
            place = program[place][1]
        else:
            _, outputs, inputs = program[place]
            held = _stored(held, outputs, [held[variable] for variable in inputs])
            place += 1
    return (place, tuple(sorted(held.items())), configs)


def _stored(held, outputs, symbols):
    stored = dict(held)
    for variable, symbol in zip(outputs, symbols):
        stored[variable] = symbol
    return stored
