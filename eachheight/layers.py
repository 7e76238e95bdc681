"""Layers and their programs (point 8)."""

from eachheight.specs import RESULT_LIMIT, is_any_integer, is_ascending, is_integer, is_name, is_spec, is_tuple


def is_layer(thing):
    """Return whether a value is a layer."""
    if not is_tuple(thing, 4):
        return False
    upper, lowers, programs, recovery = thing
    if not is_spec(upper) or not _are_lowers(lowers):
        return False
    offers = [_offer(lower) for lower in lowers]
    return _are_programs(programs, upper[1], offers) and _is_program(recovery, "up", 0, offers)


def variables_read(instruction):
    """Return the variables that an instruction reads."""
    if instruction[0] == "call":
        return instruction[3]
    return instruction[2] if instruction[0] in ("move", "return") else ()


def _are_lowers(thing):
    if not isinstance(thing, tuple) or not thing:
        return False
    return all([is_spec(part) for part in thing])


def _offer(spec):
    """Return the arity and the replies of each operation, these with their numbers of results."""
    offer = {}
    for index, (op, arity) in enumerate(spec[1]):
        replies = {reply: len(results) for row in spec[2] for reply, results, _, _ in row[index]}
        offer[op] = (arity, replies)
    return offer


def _are_programs(thing, operations, offers):
    if not is_tuple(thing, len(operations)):
        return False
    pairs = list(zip(thing, operations))
    return all([_is_program(part, "return", operation[1], offers) for part, operation in pairs])


def _is_program(thing, ending, arity, offers):
    """Return whether a value is a program with this kind of end and this number of arguments."""
    if not isinstance(thing, tuple) or not thing:
        return False
    last = len(thing) - 1
    if not all([_is_instruction(part, ending, (at, last), offers) for at, part in enumerate(thing)]):
        return False
    return thing[last][0] == ending and _reads_what_is_set(thing, arity)


def _is_instruction(thing, ending, span, offers):
    """Return whether a value is an instruction; `span` has its index and that of the last one."""
    if not isinstance(thing, tuple) or not thing:
        return False
    kind = thing[0]
    if kind == "call":
        return _is_call(thing, span, offers)
    if kind == "move":
        return _is_move(thing)
    if kind == "jump":
        return is_tuple(thing, 2) and _is_target(thing[1], span)
    if kind != ending:
        return False
    return is_tuple(thing, 1) if kind == "up" else _is_return(thing)


def _is_call(thing, span, offers):
    if not is_tuple(thing, 5):
        return False
    _, k, op, inputs, branches = thing
    if not is_integer(k, 0, len(offers) - 1) or not is_name(op) or op not in offers[k]:
        return False
    arity, replies = offers[k][op]
    return _are_variables(inputs) and len(inputs) == arity and _are_branches(branches, replies, span)


def _are_branches(thing, replies, span):
    if not isinstance(thing, tuple) or not all([_is_branch(part, replies, span) for part in thing]):
        return False
    return is_ascending([branch[0] for branch in thing])


def _is_branch(thing, replies, span):
    if not is_tuple(thing, 3):
        return False
    reply, outputs, target = thing
    if not is_name(reply) or reply not in replies:
        return False
    return _are_outputs(outputs) and len(outputs) == replies[reply] and _is_target(target, span)


def _is_move(thing):
    if not is_tuple(thing, 3):
        return False
    _, outputs, inputs = thing
    return _are_outputs(outputs) and _are_variables(inputs) and len(outputs) == len(inputs)


def _is_return(thing):
    if not is_tuple(thing, 3):
        return False
    _, reply, inputs = thing
    return is_name(reply) and _are_variables(inputs) and len(inputs) <= RESULT_LIMIT


def _is_target(thing, span):
    at, last = span
    return is_integer(thing, at + 1, last)


def _are_outputs(thing):
    return _are_variables(thing) and len(set(thing)) == len(thing)


def _are_variables(thing):
    return isinstance(thing, tuple) and all([_is_variable(part) for part in thing])


def _is_variable(thing):
    return is_any_integer(thing) and thing >= 0


def _reads_what_is_set(program, arity):
    """Return whether each path from instruction 0 sets every variable before it is read.

    Sets of variables are the bits of an integer, as a program may have thousands of both. All
    targets are later instructions, so what is set ahead of an instruction is known when it is met.
    """
    bits = {}
    arrivals = [None for _ in program]
    arrivals[0] = _bits_of(bits, list(range(arity)))
    for at, instruction in enumerate(program):
        known = arrivals[at]
        if known is None:
            continue
        needed = _bits_of(bits, variables_read(instruction))
        if (needed & known) != needed:
            return False
        for target, outputs in _ways_on(instruction, at):
            brought = known | _bits_of(bits, outputs)
            arrivals[target] = brought if arrivals[target] is None else arrivals[target] & brought
    return True


def _bits_of(bits, variables):
    """Return the bits of the variables; those that have none yet get the next ones."""
    total = 0
    for variable in variables:
        total |= bits.setdefault(variable, 1 << len(bits))
    return total


def _ways_on(instruction, at):
    """Return (index of the instruction that may be next, variables that are set by then)."""
    if instruction[0] == "call":
        return [(target, outputs) for _, outputs, target in instruction[4]]
    if instruction[0] == "move":
        return [(at + 1, instruction[1])]
    return [(instruction[1], ())] if instruction[0] == "jump" else []
