"""Layers that several tests use, good and bad ones."""

import random

from tests import reference
from tests.samples import CACHE, CELL, PAIR, PING, SILENT

GOOD = (PING, (PING,), ((("call", 0, "ping", (), (("ok", (), 1),)), ("return", "ok", ())),), (("up",),))
BAD = (PING, (PING,), ((("call", 0, "ping", (), (("ok", (), 1),)), ("return", "no", ())),), (("up",),))


def call_and_return(spec, op, k=0):
    """Return a program that calls the operation of lower spec k and returns what it replies."""
    names = [operation[0] for operation in spec[1]]
    at = names.index(op)
    counts = {reply: len(results) for row in spec[2] for reply, results, _, _ in row[at]}
    replies = sorted(counts)
    branches = tuple((reply, tuple(range(counts[reply])), index + 1) for index, reply in enumerate(replies))
    ends = tuple(("return", reply, tuple(range(counts[reply]))) for reply in replies)
    return (("call", k, op, tuple(range(spec[1][at][1])), branches),) + ends


def same_layer(spec):
    """Return a layer that passes each call of its upper spec to the same lower one."""
    return (spec, (spec,), tuple(call_and_return(spec, op) for op, _ in spec[1]), (("up",),))


def wheel(modes):
    """Return a spec whose only operation leads through all modes, which a crash does not change."""
    cases = tuple(((("ok", (), (mode + 1) % modes, ()),),) for mode in range(modes))
    return ((0,) * modes, (("turn", 0),), cases, tuple(((mode, ()),) for mode in range(modes)))


def wheel_layer(*counts):
    """Return a layer that turns wheels, each by an operation of its own."""
    names = tuple((name, 0) for name in "abcde"[:len(counts)])
    upper = ((0,), names, (((("ok", (), 0, ()),),) * len(counts),), (((0, ()),),))
    programs = tuple((("call", k, "turn", (), (("ok", (), 1),)), ("return", "ok", ())) for k in range(len(counts)))
    return (upper, tuple(map(wheel, counts)), programs, (("up",),))


def renamed(spec, end):
    """Return the spec with another end at the names of its operations."""
    slots, operations, cases, crashes = spec
    return (slots, tuple((name + end, arity) for name, arity in operations), cases, crashes)


# A cell on two cells: "put" writes both, "get" reads the first one, recovery copies it to the second.
TWICE = (
    CELL,
    (CELL, CELL),
    (
        (
            ("call", 0, "get", (), (("is", (0,), 1), ("none", (), 2))),
            ("return", "is", (0,)),
            ("return", "none", ()),
        ),
        (
            ("call", 0, "put", (0,), (("ok", (), 1),)),
            ("call", 1, "put", (0,), (("ok", (), 2),)),
            ("return", "ok", ()),
        ),
    ),
    (
        ("call", 0, "get", (), (("is", (5,), 1), ("none", (), 2))),
        ("call", 1, "put", (5,), (("ok", (), 2),)),
        ("up",),
    ),
)

# As TWICE, but "put" writes the second cell only, and recovery does not handle a first cell that is empty.
ASKEW = (
    CELL,
    (CELL, CELL),
    (
        TWICE[2][0],
        (("call", 1, "put", (0,), (("ok", (), 1),)), ("return", "ok", ())),
    ),
    (("call", 0, "get", (), (("is", (5,), 1),)), ("up",)),
)

# A cell on a cache: "put" writes and syncs; it tries once more, and then it does not handle the reply.
DURABLE = (
    CELL,
    (CACHE,),
    (
        call_and_return(CACHE, "get"),
        (
            ("call", 0, "put", (0,), (("full", (), 1), ("ok", (), 3))),
            ("call", 0, "sync", (), (("ok", (), 2),)),
            ("call", 0, "put", (0,), (("ok", (), 3),)),
            ("call", 0, "sync", (), (("late", (), 4), ("ok", (), 5))),
            ("call", 0, "sync", (), (("ok", (), 5),)),
            ("return", "ok", ()),
        ),
    ),
    (("jump", 2), ("move", (1,), (1,)), ("call", 0, "sync", (), (("late", (), 3), ("ok", (), 3))), ("up",)),
)

# Moves that exchange variables, equal inputs, an instruction that no path reaches.
MOVES = (
    PAIR,
    (PAIR, PING),
    (
        call_and_return(PAIR, "both"),
        (
            ("move", (1, 0, 7), (0, 1, 1)),
            ("call", 1, "ping", (), (("ok", (), 4),)),
            ("call", 0, "set", (90, 91), ()),
            ("jump", 4),
            ("call", 0, "set", (7, 7), (("ok", (), 5), ("same", (), 6))),
            ("return", "ok", ()),
            ("return", "same", ()),
        ),
        call_and_return(PAIR, "swap"),
    ),
    (("call", 1, "ping", (), (("ok", (), 1),)), ("up",)),
)

# A layer without operations, on five specs of all kinds.
FIVE = (
    SILENT,
    (PING, CELL, CACHE, PAIR, SILENT),
    (),
    (("call", 3, "both", (), (("are", (2, 4), 1), ("none", (), 2))), ("move", (), ()), ("up",)),
)

LAYERS = (GOOD, BAD, TWICE, ASKEW, DURABLE, MOVES, FIVE) + tuple(map(same_layer, (CELL, CACHE, PAIR, SILENT)))
CERTIFIED = (GOOD, TWICE) + tuple(map(same_layer, (CELL, CACHE, PAIR, SILENT)))


def random_spec(source):
    """Return a spec with few modes, values and operations, with arbitrary cases and crashes."""
    slots = (0,) + tuple(source.choice((0, 1, 2, 2)) for _ in range(source.randrange(3)))
    operations = tuple((name, source.choice((0, 0, 1, 2))) for name in ("a", "b", "c")[:source.randint(0, 3)])
    rows = [[] for _ in slots]
    for _, arity in operations:
        counts = {reply: source.randrange(3) for reply in ("no", "ok", "so")}
        for row, held in zip(rows, slots):
            row.append(_random_case(source, slots, held + arity, counts))
    tables = [{_random_target(source, slots, held) for _ in range(source.randint(1, 2))} for held in slots]
    crashes = tuple(tuple(sorted(entry)) for entry in _closed(slots, tables))
    return (slots, operations, tuple(map(tuple, rows)), crashes)


def _random_case(source, slots, references, counts):
    case = set()
    for _ in range(source.choice((1, 1, 2, 3))):
        fits = [reply for reply, count in counts.items() if count == 0 or references]
        reply = source.choice(fits) if fits else "none"
        results = tuple(source.randrange(references) for _ in range(counts.get(reply, 0)))
        case.add((reply, results) + _random_target(source, slots, references))
    return tuple(sorted(case))


def _random_target(source, slots, references):
    mode = source.choice([mode for mode, count in enumerate(slots) if references or not count])
    return (mode, tuple(source.randrange(references) for _ in range(slots[mode])))


def _closed(slots, tables):
    while not reference.transitive(tables):
        for entry in tables:
            entry |= {
                (last, tuple(kept[slot] for slot in more))
                for after, kept in list(entry) for last, more in tables[after]
            }
    return tables


def random_layer(source):
    """Return a layer over one to three random specs, whose upper spec is often one of these."""
    lowers = tuple(random_spec(source) for _ in range(source.choice((1, 1, 2, 3))))
    upper = source.choice(lowers) if source.randrange(3) else random_spec(source)
    programs = []
    for op, arity in upper[1]:
        at = [operation[0] for operation in upper[1]].index(op)
        ends = sorted({(reply, len(results)) for row in upper[2] for reply, results, _, _ in row[at]})
        if upper in lowers and source.randrange(2):
            programs.append(call_and_return(upper, op, lowers.index(upper)))
        else:
            programs.append(random_program(source, lowers, arity, ends))
    return (upper, lowers, tuple(programs), random_program(source, lowers, 0, None))


def random_program(source, lowers, arity, ends):
    """Return a program with up to six instructions; `ends` are replies and their numbers of results."""
    count = source.randint(1, 6)
    known = {0: set(range(arity))}
    program = []
    for at in range(count):
        reads = sorted(known.get(at, range(4)))
        later = range(at + 1, count)
        instruction = _random_end(source, ends, reads)
        if later and source.randrange(8):
            instruction = _random_step(source, lowers, reads, later) or instruction
        program.append(instruction)
        if at in known:
            for target, outputs in _ways_on(instruction, at):
                brought = known[at] | set(outputs)
                known[target] = known.get(target, brought) & brought
    return tuple(program)


def _random_end(source, ends, reads):
    if ends is None:
        return ("up",)
    fits = [(reply, count) for reply, count in ends if count == 0 or reads] or [("never", 0)]
    reply, count = source.choice(fits)
    return ("return", reply, tuple(source.choice(reads) for _ in range(count)))


def _random_step(source, lowers, reads, later):
    kind = source.choice(("call", "call", "call", "move", "jump"))
    if kind == "jump":
        return ("jump", source.choice(later))
    if kind == "move":
        outputs = tuple(source.sample(range(4), source.randint(0, 2) if reads else 0))
        return ("move", outputs, tuple(source.choice(reads) for _ in outputs))
    k = source.randrange(len(lowers))
    fits = [at for at, (_, arity) in enumerate(lowers[k][1]) if arity == 0 or reads]
    if not fits:
        return None
    at = source.choice(fits)
    op, arity = lowers[k][1][at]
    counts = {reply: len(results) for row in lowers[k][2] for reply, results, _, _ in row[at]}
    branches = tuple(
        (reply, tuple(source.sample(range(4), counts[reply])), source.choice(later))
        for reply in sorted(counts) if source.randrange(8)
    )
    return ("call", k, op, tuple(source.choice(reads) for _ in range(arity)), branches)


def _ways_on(instruction, at):
    if instruction[0] == "call":
        return [(target, outputs) for _, outputs, target in instruction[4]]
    if instruction[0] == "move":
        return [(at + 1, instruction[1])]
    return [(instruction[1], ())] if instruction[0] == "jump" else []


def random_state(source, layer):
    """Return a state of any form that point 9 allows."""
    upper, lowers, _, _ = layer
    configs, count = [], 0
    for lower in lowers:
        mode = source.randrange(len(lower[0]))
        symbols = []
        for _ in range(lower[0][mode]):
            symbols.append(source.randint(0, count))
            count = max(count, symbols[-1] + 1)
        configs.append((mode, tuple(symbols)))
    candidates = set()
    for _ in range(source.choice((1, 1, 2, 3, 4))):
        mode = source.randrange(len(upper[0]))
        candidates.add((mode, tuple(source.randrange(-1, count) for _ in range(upper[0][mode]))))
    return (source.choice(("up", "up", "down")), tuple(configs), tuple(sorted(candidates)))


def random_layers(seed, count):
    source = random.Random(seed)
    return [random_layer(source) for _ in range(count)]
