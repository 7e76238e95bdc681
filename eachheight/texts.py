"""Texts of specs and layers (point 20)."""

from eachheight.errors import InvalidText
from eachheight.layers import is_layer
from eachheight.specs import is_spec
from eachheight.words import is_number, joined

DIGIT_LIMIT = 40
# The first words of the lines that begin a part of a layer.
UPPER = "upper"
LOWER = "lower"
PROGRAM = "program"
RECOVERY = "recovery"


def format_spec(spec):
    """Return the text of a spec."""
    return "\n".join(_spec_lines(spec))


def parse_spec(text):
    """Return the spec of a text."""
    spec = _read_spec(_rows(text))
    # Many texts can be read, but only one of them is that of the spec.
    if not is_spec(spec) or format_spec(spec) != text:
        raise InvalidText()
    return spec


def format_layer(layer):
    """Return the text of a layer."""
    upper, lowers, programs, recovery = layer
    lines = [UPPER, *_spec_lines(upper)]
    for lower in lowers:
        lines.extend([LOWER, *_spec_lines(lower)])
    for operation, program in zip(upper[1], programs):
        lines.extend([joined([PROGRAM, operation[0]]), *_program_lines(program)])
    lines.extend([RECOVERY, *_program_lines(recovery)])
    return "\n".join(lines)


def parse_layer(text):
    """Return the layer of a text."""
    layer = _read_layer(_rows(text))
    if not is_layer(layer) or format_layer(layer) != text:
        raise InvalidText()
    return layer


def _spec_lines(spec):
    slots, operations, cases, crashes = spec
    lines = [joined(["slots", *slots])]
    lines.append(joined(["operations", *[part for operation in operations for part in operation]]))
    for mode, row in enumerate(cases):
        for operation, case in zip(operations, row):
            for reply, results, after, kept in case:
                lines.append(joined(["outcome", mode, operation[0], reply, *results, "to", after, *kept]))
    for mode, entry in enumerate(crashes):
        for after, kept in entry:
            lines.append(joined(["crash", mode, "to", after, *kept]))
    return lines


def _program_lines(program):
    lines = []
    for instruction in program:
        if instruction[0] == "call":
            _, k, op, inputs, branches = instruction
            lines.append(joined(["call", k, op, *inputs]))
            for reply, outputs, target in branches:
                lines.append(joined(["branch", reply, *outputs, "to", target]))
        elif instruction[0] == "move":
            _, outputs, inputs = instruction
            lines.append(joined(["move", *outputs, "from", *inputs]))
        elif instruction[0] == "return":
            _, reply, inputs = instruction
            lines.append(joined(["return", reply, *inputs]))
        else:
            lines.append(joined(instruction))
    return lines


def _rows(text):
    """Return the words of each line of a text, which may be any value."""
    if not isinstance(text, str):
        raise InvalidText()
    return [line.split(" ") for line in text.split("\n")]


def _read_spec(rows):
    """Return what the rows say; it need not be a spec."""
    if len(rows) < 2:
        raise InvalidText()
    slots = _numbers(rows[0][1:])
    names = rows[1][1::2]
    operations = tuple(zip(names, _numbers(rows[1][2::2])))
    # Each case has a line, so there is no use in making more cases than lines.
    if len(slots) * len(operations) > len(rows):
        raise InvalidText()
    outcomes = {}
    crashes = {}
    for row in rows[2:]:
        if row[0] == "outcome":
            place, outcome = _read_outcome(row)
            outcomes.setdefault(place, []).append(outcome)
        else:
            mode, crash = _read_crash(row)
            crashes.setdefault(mode, []).append(crash)
    cases = [
        tuple([tuple(outcomes.get((mode, name), [])) for name, _ in operations])
        for mode in range(len(slots))
    ]
    entries = [tuple(crashes.get(mode, [])) for mode in range(len(slots))]
    return (slots, operations, tuple(cases), tuple(entries))


def _read_outcome(row):
    """Return ((mode, op), outcome)."""
    results, target = _parted(row[4:], "to")
    after, kept = _read_target(target)
    return ((_number(row[1]), row[2]), (row[3], _numbers(results), after, kept))


def _read_crash(row):
    """Return (mode, crash)."""
    modes, target = _parted(row[1:], "to")
    return (_number(joined(modes)), _read_target(target))


def _read_target(words):
    if not words:
        raise InvalidText()
    return (_number(words[0]), _numbers(words[1:]))


def _read_layer(rows):
    """Return what the rows say; it need not be a layer."""
    parts = {UPPER: [], LOWER: [], PROGRAM: [], RECOVERY: []}
    part = []
    for row in rows:
        if row[0] in parts:
            part = []
            parts[row[0]].append(part)
        else:
            part.append(row)
    if len(parts[UPPER]) != 1 or len(parts[RECOVERY]) != 1:
        raise InvalidText()
    return (
        _read_spec(parts[UPPER][0]),
        tuple([_read_spec(lower) for lower in parts[LOWER]]),
        tuple([_read_program(program) for program in parts[PROGRAM]]),
        _read_program(parts[RECOVERY][0]),
    )


def _read_program(rows):
    """Return what the rows say; it need not be a program."""
    instructions = []
    for row in rows:
        if row[0] == "branch":
            if not instructions or instructions[-1][0] != "call":
                raise InvalidText()
            _, k, op, inputs, branches = instructions.pop()
            instructions.append(("call", k, op, inputs, branches + (_read_branch(row),)))
        else:
            instructions.append(_read_instruction(row))
    return tuple(instructions)


def _read_branch(row):
    outputs, target = _parted(row[2:], "to")
    return (row[1], _numbers(outputs), _number(joined(target)))


def _read_instruction(row):
    kind = row[0]
    if kind == "call" and len(row) > 2:
        return ("call", _number(row[1]), row[2], _numbers(row[3:]), ())
    if kind == "move":
        outputs, inputs = _parted(row[1:], "from")
        return ("move", _numbers(outputs), _numbers(inputs))
    if kind == "jump" and len(row) == 2:
        return ("jump", _number(row[1]))
    if kind == "return" and len(row) > 1:
        return ("return", row[1], _numbers(row[2:]))
    if kind == "up":
        return ("up",)
    raise InvalidText()


def _parted(words, sign):
    """Return the words before and behind the first sign."""
    if sign not in words:
        raise InvalidText()
    at = words.index(sign)
    return (words[:at], words[at + 1:])


def _numbers(words):
    return tuple([_number(word) for word in words])


def _number(word):
    if not is_number(word, DIGIT_LIMIT):
        raise InvalidText()
    return int(word)
