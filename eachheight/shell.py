"""The shell: commands and their answers (point 21)."""

from eachheight.checking import check_layer
from eachheight.errors import InvalidCommand, InvalidText, Mismatch, NameTaken, UnknownName
from eachheight.specs import is_name
from eachheight.systems import System
from eachheight.texts import parse_layer, parse_spec
from eachheight.trees import first_mismatch
from eachheight.words import is_number, joined

DIGIT_LIMIT = 10


def _add_spec(shell, words):
    _need(len(words) > 1 and is_name(words[0]))
    try:
        spec = parse_spec(_text(words[1:]))
    except InvalidText:
        raise InvalidCommand()
    _keep(shell.specs, words[0], spec)
    return "ok"


def _add_layer(shell, words):
    _need(len(words) > 1 and is_name(words[0]))
    try:
        layer = parse_layer(_text(words[1:]))
    except InvalidText:
        raise InvalidCommand()
    _keep(shell.layers, words[0], layer)
    return "ok"


def _check(shell, words):
    _need(len(words) == 1 and is_name(words[0]))
    return check_layer(_kept(shell.layers, words[0]))[0]


def _add_system(shell, words):
    # A name and pairs, so an odd number of words.
    _need(len(words) > 2 and len(words) % 2 == 1 and is_name(words[0]))
    pairs = list(zip(words[1::2], words[2::2]))
    _need(all([kind in ("base", "over") and is_name(name) for kind, name in pairs]))
    _check_free(shell.systems, words[0])
    parts = [(kind, _kept(shell.specs if kind == "base" else shell.layers, name)) for kind, name in pairs]
    _need(_is_complete(parts))
    _keep(shell.systems, words[0], System(_tree(parts)))
    return "ok"


def _call(shell, words):
    _need(len(words) > 1 and is_name(words[0]) and is_name(words[1]))
    arguments = _numbers(words[2:])
    answer = _kept(shell.systems, words[0]).call(words[1], arguments)
    if answer is None:
        return "-"
    reply, results = answer
    return joined([reply, *results])


def _recover(shell, words):
    return "yes" if _only_system(shell, words).recover() else "no"


def _crash(shell, words):
    _only_system(shell, words).crash()
    return "ok"


def _schedule(shell, words):
    _need(len(words) in (2, 3) and is_name(words[0]))
    completed = len(words) == 3
    _need(not completed or words[2] == "completed")
    step = _number(words[1])
    _need(step > 0)
    _kept(shell.systems, words[0]).schedule_crash(step, completed=completed)
    return "ok"


def _steps(shell, words):
    return str(_only_system(shell, words).step_count())


def _candidates(shell, words):
    _need(len(words) > 0 and is_name(words[0]))
    node = _numbers(words[1:])
    configs = _kept(shell.systems, words[0]).candidates(node)
    return " / ".join([joined([mode, *values]) for mode, values in configs]) or "none"


COMMANDS = {
    "spec": _add_spec,
    "layer": _add_layer,
    "check": _check,
    "system": _add_system,
    "call": _call,
    "recover": _recover,
    "crash": _crash,
    "schedule": _schedule,
    "steps": _steps,
    "candidates": _candidates,
}


class Shell:
    """Specs, layers and systems, each kind under names of its own."""

    def __init__(self):
        self.specs = {}
        self.layers = {}
        self.systems = {}

    def run(self, line):
        """Execute a command and return its answer."""
        _need(isinstance(line, str) and "\n" not in line)
        words = line.split(" ")
        # A blank at an end, or behind another one, has a word without letters beside it.
        _need("" not in words and words[0] in COMMANDS)
        command = COMMANDS[words[0]]
        return command(self, words[1:])


def _need(test):
    if not test:
        raise InvalidCommand()


def _text(words):
    return joined(words).replace(" ; ", "\n")


def _number(word):
    _need(is_number(word, DIGIT_LIMIT))
    return int(word)


def _numbers(words):
    return tuple([_number(word) for word in words])


def _check_free(things, name):
    if name in things:
        raise NameTaken(name)


def _keep(things, name, thing):
    _check_free(things, name)
    things[name] = thing


def _kept(things, name):
    if name not in things:
        raise UnknownName(name)
    return things[name]


def _only_system(shell, words):
    """Return the system of a command that has no other words."""
    _need(len(words) == 1 and is_name(words[0]))
    return _kept(shell.systems, words[0])


def _is_complete(parts):
    """Return whether the parts are one tree: base specs, and layers ahead of their children."""
    missing = 1
    for kind, thing in parts:
        if missing == 0:
            return False
        missing += len(thing[1]) - 1 if kind == "over" else -1
    return missing == 0


def _tree(parts):
    """Return the tree of complete parts."""
    # Layers that lack children, the innermost one last, each with the children that it has.
    layers = []
    done = None
    for kind, thing in parts:
        if kind == "over":
            layers.append((thing, []))
            continue
        done = ("base", thing)
        while layers and len(layers[-1][1]) + 1 == len(layers[-1][0][1]):
            layer, children = layers.pop()
            done = _grown(layer, tuple([*children, done]))
        if layers:
            layers[-1][1].append(done)
    return done


def _grown(layer, children):
    position = first_mismatch(layer, children)
    if position is not None:
        raise Mismatch(position)
    return ("layer", layer, children)
