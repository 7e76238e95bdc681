"""What points 8 to 12 say, once more and as plainly as possible, to compare the program with."""

from itertools import product

from tests import reference
from tests.reference import ascending, name, need, plain_int


def layer(thing):
    """Return whether a value is a layer, by point 8 read from top to bottom."""
    try:
        return _layer(thing)
    except (TypeError, ValueError, IndexError, KeyError, AssertionError):
        return False


def _layer(thing):
    need(type(thing) is tuple)
    upper, lowers, programs, recovery = thing
    need(reference.spec(upper))
    need(type(lowers) is tuple and len(lowers) > 0 and all(reference.spec(lower) for lower in lowers))
    need(type(programs) is tuple and len(programs) == len(upper[1]))
    for program, (_, arity) in zip(programs, upper[1]):
        _program(program, lowers, "return", arity)
    _program(recovery, lowers, "up", 0)
    return True


def _program(program, lowers, ending, arity):
    need(type(program) is tuple and len(program) > 0)
    for at, instruction in enumerate(program):
        need(type(instruction) is tuple and len(instruction) > 0)
        need(instruction[0] in ("call", "move", "jump", ending))
        later = range(at + 1, len(program))
        if instruction[0] == "call":
            _call(instruction, lowers, later)
        elif instruction[0] == "move":
            _, outputs, inputs = instruction
            need(variables(outputs) and variables(inputs) and len(outputs) == len(inputs))
            need(len(set(outputs)) == len(outputs))
        elif instruction[0] == "jump":
            _, target = instruction
            need(plain_int(target) and target in later)
        elif instruction[0] == "return":
            _, reply, inputs = instruction
            need(name(reply) and variables(inputs) and len(inputs) <= 2)
        else:
            need(len(instruction) == 1)
    need(program[-1][0] == ending)
    _paths(program, 0, set(range(arity)))


def _call(instruction, lowers, later):
    _, k, op, inputs, branches = instruction
    need(plain_int(k) and k in range(len(lowers)))
    need(type(op) is str)
    at = [operation[0] for operation in lowers[k][1]].index(op)
    need(variables(inputs) and len(inputs) == lowers[k][1][at][1])
    counts = {reply: len(results) for row in lowers[k][2] for reply, results, _, _ in row[at]}
    need(type(branches) is tuple)
    for branch in branches:
        need(type(branch) is tuple)
        reply, outputs, target = branch
        need(type(reply) is str and variables(outputs) and len(outputs) == counts[reply])
        need(len(set(outputs)) == len(outputs))
        need(plain_int(target) and target in later)
    need(ascending([branch[0] for branch in branches]))


def variables(thing):
    return type(thing) is tuple and all(plain_int(part) and part >= 0 for part in thing)


def _paths(program, at, known):
    """Follow each path from here by itself."""
    instruction = program[at]
    if instruction[0] == "call":
        need(set(instruction[3]) <= known)
        for _, outputs, target in instruction[4]:
            _paths(program, target, known | set(outputs))
    elif instruction[0] == "move":
        need(set(instruction[2]) <= known)
        _paths(program, at + 1, known | set(instruction[1]))
    elif instruction[0] == "jump":
        _paths(program, instruction[1], known)
    elif instruction[0] == "return":
        need(set(instruction[2]) <= known)


def state(layer_, thing):
    """Return whether a value has the form of a state, by point 9 read from top to bottom."""
    try:
        return _state(layer_, thing)
    except (TypeError, ValueError, IndexError, AssertionError):
        return False


def _state(layer_, thing):
    need(type(thing) is tuple)
    phase, configs, candidates = thing
    need(type(phase) is str and phase in ("up", "down"))
    need(type(configs) is tuple and len(configs) == len(layer_[1]))
    for config, lower in zip(configs, layer_[1]):
        _config(config, lower)
    row = [symbol for _, symbols in configs for symbol in symbols]
    need(list(dict.fromkeys(row)) == list(range(len(set(row)))))
    need(type(candidates) is tuple and len(candidates) > 0)
    for candidate in candidates:
        _config(candidate, layer_[0])
        need(all(symbol in row or symbol == -1 for symbol in candidate[1]))
    need(ascending(candidates))
    return True


def _config(config, spec):
    need(type(config) is tuple)
    mode, symbols = config
    need(plain_int(mode) and mode in range(len(spec[0])))
    need(type(symbols) is tuple and len(symbols) == spec[0][mode])
    need(all(plain_int(symbol) for symbol in symbols))


class TooShort(Exception):
    """The path ends ahead of a call that may have this many outcomes."""


class TooLong(Exception):
    """The path goes on behind the end."""


def execute(layer_, program, arguments, configs, path):
    """Run a program along a path, to its end. Return what it ends with, and the configs."""
    known = dict(enumerate(arguments))
    path, configs, at = list(path), list(configs), 0
    while True:
        instruction = program[at]
        if instruction[0] == "call":
            _, k, op, inputs, branches = instruction
            lower, (mode, symbols) = layer_[1][k], configs[k]
            number = [operation[0] for operation in lower[1]].index(op)
            case = lower[2][mode][number]
            if not path:
                raise TooShort(len(case), tuple(configs))
            reply, results, after, kept = case[path.pop(0)]
            held = symbols + tuple(known[variable] for variable in inputs)
            configs[k] = (after, tuple(held[slot] for slot in kept))
            found = [branch for branch in branches if branch[0] == reply]
            if not found:
                break
            _, outputs, at = found[0]
            known.update(zip(outputs, [held[slot] for slot in results]))
        elif instruction[0] == "move":
            known.update(zip(instruction[1], [known[variable] for variable in instruction[2]]))
            at += 1
        elif instruction[0] == "jump":
            at = instruction[1]
        else:
            break
    if path:
        raise TooLong
    if instruction[0] == "call":
        return "unhandled", None, tuple(configs)
    if instruction[0] == "up":
        return "up", None, tuple(configs)
    return "return", (instruction[1], tuple(known[variable] for variable in instruction[2])), tuple(configs)


def steps(layer_, state_):
    """Return a dict of all steps from a state; their values are the states after them, None if bad."""
    upper, _, programs, recovery = layer_
    phase, configs, candidates = state_
    found = {}
    if phase == "up":
        new = len({symbol for _, symbols in configs for symbol in symbols})
        crashed = {result for candidate in candidates for result in _crashed(upper, candidate)}
        _add_crashes(layer_, found, ("crash",), configs, crashed)
        for (op, arity), program in zip(upper[1], programs):
            arguments = tuple(range(new, new + arity))
            _add_steps(layer_, found, state_, ("done", op), ("cut", op), program, arguments)
    else:
        _add_steps(layer_, found, state_, ("recover",), ("recrash",), recovery, ())
    return found


def _add_steps(layer_, found, state_, whole, broken, program, arguments):
    upper, (_, configs, candidates) = layer_[0], state_
    crashed = set(candidates)
    if broken[0] == "cut":
        befores = set(candidates)
        for candidate in candidates:
            befores |= {after for _, _, after in _outcomes(upper, candidate, broken[1], arguments)}
        crashed = {result for before in befores for result in _crashed(upper, before)}
    paths = [()]
    for path in paths:
        try:
            how, said, after = execute(layer_, program, arguments, configs, path)
        except TooShort as e:
            count, after = e.args
            paths += [path + (index,) for index in range(count)]
        else:
            if how == "unhandled":
                found[whole + (path,)] = None
            elif how == "up":
                found[whole + (path,)] = _tidy("up", after, candidates)
            else:
                left = {
                    target for candidate in candidates
                    for reply, results, target in _outcomes(upper, candidate, whole[1], arguments)
                    if (reply, results) == said
                }
                found[whole + (path,)] = _tidy("up", after, left) if left else None
        _add_crashes(layer_, found, broken + (path,), after, crashed)


def _add_crashes(layer_, found, start, configs, crashed):
    entries = [lower[3][mode] for lower, (mode, _) in zip(layer_[1], configs)]
    for choice in product(*[range(len(entry)) for entry in entries]):
        after = []
        for entry, index, (_, symbols) in zip(entries, choice, configs):
            mode, kept = entry[index]
            after.append((mode, tuple(symbols[slot] for slot in kept)))
        found[start + (choice,)] = _tidy("down", tuple(after), crashed)


def _crashed(spec, config):
    return {(mode, tuple(config[1][slot] for slot in kept)) for mode, kept in spec[3][config[0]]}


def _outcomes(spec, config, op, arguments):
    number = [operation[0] for operation in spec[1]].index(op)
    held = config[1] + arguments
    return [
        (reply, tuple(held[slot] for slot in results), (after, tuple(held[slot] for slot in kept)))
        for reply, results, after, kept in spec[2][config[0]][number]
    ]


def _tidy(phase, configs, candidates):
    """Number the symbols of the configs anew; other symbols of candidates are lost."""
    order = list(dict.fromkeys(symbol for _, symbols in configs for symbol in symbols))

    def anew(config):
        return (config[0], tuple(order.index(symbol) if symbol in order else -1 for symbol in config[1]))

    return phase, tuple(map(anew, configs)), tuple(sorted(set(map(anew, candidates))))


def first_state(layer_):
    return ("up", ((0, ()),) * len(layer_[1]), ((0, ()),))


def reachable(layer_, limit=400, start=None):
    """Return all states that can be reached by steps that are not bad, and whether one is bad."""
    first = start or first_state(layer_)
    found, waiting, bad = {first}, [first], False
    while waiting and len(found) <= limit:
        for after in steps(layer_, waiting.pop()).values():
            if after is None:
                bad = True
            elif after not in found:
                found.add(after)
                waiting.append(after)
    return tuple(sorted(found)), bad


def certificate(layer_, thing):
    """Return whether a value is a certificate, by point 12 read from top to bottom."""
    if type(thing) is not tuple or not all(state(layer_, part) for part in thing):
        return False
    if not ascending(thing) or first_state(layer_) not in thing:
        return False
    for part in thing:
        for after in steps(layer_, part).values():
            if after is None or not any(covers(other, after) for other in thing):
                return False
    return True


def covers(other, after):
    return other[:2] == after[:2] and set(other[2]) <= set(after[2])
