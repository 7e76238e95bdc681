"""How a tree runs, once more and as plainly as possible, to compare the program with.

The generators here tell what happens: ("call", node, op, arguments), ("return", node, reply, results),
("up", node), and ("base", node, op, arguments), to which they are sent a reply and results.
"""


class Unhandled(Exception):
    """The layer of this node does not handle a reply."""


def nodes(tree):
    """Return a dict of all nodes, each with the part of the tree below it."""
    found = {(): tree}
    if tree[0] == "layer":
        for k, child in enumerate(tree[2]):
            found.update({(k,) + node: part for node, part in nodes(child).items()})
    return found


def spec_of(part):
    return part[1] if part[0] == "base" else part[1][0]


def calling(parts, node, op, arguments):
    """Call an operation of a node, and return its reply and results."""
    yield ("call", node, op, arguments)
    if parts[node][0] == "base":
        said = yield ("base", node, op, arguments)
    else:
        upper, _, programs, _ = parts[node][1]
        at = [name for name, _ in upper[1]].index(op)
        said = yield from running(parts, node, programs[at], dict(enumerate(arguments)))
    yield ("return", node) + said
    return said


def running(parts, node, program, known):
    """Run a program of the layer of a node, and return what it replies."""
    at = 0
    while True:
        kind, *rest = program[at]
        if kind == "call":
            k, op, inputs, branches = rest
            reply, results = yield from calling(parts, node + (k,), op, tuple(known[name] for name in inputs))
            found = [branch for branch in branches if branch[0] == reply and len(branch[1]) == len(results)]
            if not found:
                raise Unhandled(node)
            known.update(zip(found[0][1], results))
            at = found[0][2]
        elif kind == "move":
            known.update(list(zip(rest[0], [known[name] for name in rest[1]])))
            at += 1
        elif kind == "jump":
            at = rest[0]
        elif kind == "return":
            return rest[0], tuple(known[name] for name in rest[1])
        else:
            return None


def recovering(parts, node):
    """Run the recovery programs of a node and of all below it."""
    if parts[node][0] == "layer":
        for k in range(len(parts[node][2])):
            yield from recovering(parts, node + (k,))
        yield from running(parts, node, parts[node][1][3], {})
        yield ("up", node)


def told(generator, answer):
    """Return all that a generator tells, and what it returns; `answer` is asked for each base operation."""
    found, sent = [], None
    while True:
        try:
            event = generator.send(sent)
        except StopIteration as e:
            return found, e.value
        found.append(event)
        sent = answer(*event[1:]) if event[0] == "base" else None
