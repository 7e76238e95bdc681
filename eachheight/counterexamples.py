"""Counterexamples of layers, and the histories that steps cause (points 13 and 14)."""

from eachheight.errors import BadStep, NoSuchStep
from eachheight.moments import UNHANDLED, first_moment, moment_behind, next_call, next_outcomes, symbols_of
from eachheight.runs import START, listed_crashes
from eachheight.specs import operation_index
from eachheight.states import initial_state
from eachheight.steps import apply_step

# No lower spec has this index.
NOWHERE = -1


def counterexample_holds(layer, thing):
    """Return whether a value is a counterexample of the layer."""
    if not isinstance(thing, tuple):
        return False
    state = initial_state(layer)
    for at, step in enumerate(thing):
        try:
            state = apply_step(layer, state, step)
        except BadStep:
            return at == len(thing) - 1
        except NoSuchStep:
            return False
    return False


def replay(layer, steps, values):
    """Return the history of the upper spec, and a tuple with that of each lower spec."""
    replayed = Replay(layer, values)
    for step in steps:
        replayed.take(step)
    return (tuple(replayed.upper), tuple([tuple(lower) for lower in replayed.lowers]))


class Replay:
    """The histories that steps have caused so far, with values in the place of symbols."""

    def __init__(self, layer, arguments):
        self.layer = layer
        self.arguments = arguments
        self.configs = tuple([START for _ in layer[1]])
        self.upper = []
        self.lowers = [[] for _ in layer[1]]

    def take(self, step):
        """Add what the step causes."""
        kind = step[0]
        if kind == "crash":
            self.upper.append(("crash",))
            self._crash(step[1], NOWHERE)
        elif kind == "done":
            self._take_done(step[1], step[2])
        elif kind == "cut":
            program, arguments = self._start(step[1])
            self.upper.append(("cut", step[1], arguments))
            self._run_and_crash(program, arguments, step[2], step[3])
        elif kind == "recover":
            self._run(self.layer[3], (), step[1])
        else:
            self._run_and_crash(self.layer[3], (), step[1], step[2])

    def _start(self, op):
        """Return the program of the operation, and its arguments: the next ones."""
        upper, _, programs, _ = self.layer
        index = operation_index(upper, op)
        arity = upper[1][index][1]
        arguments = self.arguments[:arity]
        self.arguments = self.arguments[arity:]
        return (programs[index], arguments)

    def _take_done(self, op, path):
        program, arguments = self._start(op)
        moment, _ = self._run(program, arguments, path)
        place, variables, _ = moment
        if place != UNHANDLED:
            _, reply, inputs = program[place]
            self.upper.append(("done", op, arguments, reply, symbols_of(variables, inputs)))

    def _run(self, program, arguments, path):
        """Make the calls of the path. Return the moment behind them, and which spec was called last."""
        moment = first_moment(program, arguments, self.configs)
        last = NOWHERE
        for index in path:
            last, op, given = next_call(program, moment)
            outcome = next_outcomes(self.layer[1], program, moment)[index]
            self.lowers[last].append(("done", op, given, outcome[0], outcome[1]))
            moment = moment_behind(program, moment, outcome)
        self.configs = moment[2]
        return (moment, last)

    def _run_and_crash(self, program, arguments, path, choice):
        moment, last = self._run(program, arguments, path)
        if moment[0] != UNHANDLED:
            self._crash(choice, NOWHERE)
            return
        # Nobody received the last reply, so the crash interrupted that call.
        _, op, given, _, _ = self.lowers[last].pop()
        self.lowers[last].append(("cut", op, given))
        self._crash(choice, last)

    def _crash(self, choice, interrupted):
        """Let all lower specs crash; the call of the interrupted one has told its history already."""
        lowers = list(zip(self.layer[1], self.configs, choice))
        self.configs = tuple([listed_crashes(lower, config)[index] for lower, config, index in lowers])
        for k in range(len(self.lowers)):
            if k != interrupted:
                self.lowers[k].append(("crash",))
