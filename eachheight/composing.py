"""Programs of composed layers (point 15): programs of inner layers in the place of calls.

A program is written as copies of programs, one behind another or one within another. A variable or
an instruction of a copy is called (copy, number) until the program is complete.
"""

from eachheight.specs import operation_index

# The copy that is the program of the outer layer.
OUTER = 0
# The number of an instruction that stands for what follows the copy.
BEHIND = -1


def composed_program(layer, layers, index):
    """Return the composed program of an operation of the outer layer."""
    composer = Composer(layers, layer[0][1][index][1], False)
    composer.write_outer(layer[2][index])
    return composer.program()


def composed_recovery(layer, layers):
    """Return the composed recovery program: those of the inner layers, in order, then the outer one."""
    composer = Composer(layers, 0, True)
    for k, inner in enumerate(layers):
        composer.write_inner(k, inner[3], (), ())
    composer.write_outer(layer[3])
    return composer.program()


class Composer:
    """A program of a composed layer while it is written."""

    def __init__(self, layers, arity, recovers):
        self.layers = layers
        self.recovers = recovers
        self.instructions = []
        self.places = {}
        # The arguments come first. All variables are numbered anew, so that no number becomes large.
        self.numbers = {(OUTER, variable): variable for variable in range(arity)}
        self.copies = OUTER

    def program(self):
        """Return the program, complete, with indexes for targets."""
        return tuple([self._settled(instruction) for instruction in self.instructions])

    def write_outer(self, program):
        """Add the program of the outer layer."""
        for at, instruction in enumerate(program):
            self.places[(OUTER, at)] = len(self.instructions)
            if instruction[0] == "call":
                _, k, op, inputs, branches = instruction
                upper, _, programs, _ = self.layers[k]
                inner = programs[operation_index(upper, op)]
                self.write_inner(k, inner, self._numbered(OUTER, inputs), branches)
            else:
                self.instructions.append(self._copied(OUTER, instruction, 0))

    def write_inner(self, k, program, given, branches):
        """Add a program of inner layer k, with these variables for arguments and branches for replies."""
        self.copies += 1
        copy = self.copies
        first_lower = sum([len(layer[1]) for layer in self.layers[:k]])
        self._write_move(self._numbered(copy, list(range(len(given)))), given)
        for at, instruction in enumerate(program):
            self.places[(copy, at)] = len(self.instructions)
            if instruction[0] == "return":
                self._write_return(copy, instruction, branches)
            elif instruction[0] == "up":
                self.instructions.append(("jump", (copy, BEHIND)))
            else:
                self.instructions.append(self._copied(copy, instruction, first_lower))
        self.places[(copy, BEHIND)] = len(self.instructions)

    def _write_return(self, copy, instruction, branches):
        """Add what leads from the end of an inner program to the outer branch of its reply."""
        _, reply, inputs = instruction
        for handled, outputs, target in branches:
            if handled == reply and len(outputs) == len(inputs):
                self._write_move(self._numbered(OUTER, outputs), self._numbered(copy, inputs))
                self.instructions.append(("jump", (OUTER, target)))
                return
        # Layers with certificates never come here. Any end makes the program a valid one.
        self.instructions.append(("up",) if self.recovers else ("return", reply, ()))

    def _write_move(self, outputs, inputs):
        if outputs:
            self.instructions.append(("move", outputs, inputs))

    def _copied(self, copy, instruction, first_lower):
        """Return an instruction of a copy, whose lower specs begin with this one."""
        kind = instruction[0]
        if kind == "call":
            _, k, op, inputs, branches = instruction
            ways = [
                (reply, self._numbered(copy, outputs), (copy, target))
                for reply, outputs, target in branches
            ]
            return ("call", first_lower + k, op, self._numbered(copy, inputs), tuple(ways))
        if kind == "move":
            _, outputs, inputs = instruction
            return ("move", self._numbered(copy, outputs), self._numbered(copy, inputs))
        if kind == "jump":
            return ("jump", (copy, instruction[1]))
        return ("up",) if kind == "up" else ("return", instruction[1], self._numbered(copy, instruction[2]))

    def _numbered(self, copy, variables):
        return tuple([
            self.numbers.setdefault((copy, variable), len(self.numbers))
            for variable in variables
        ])

    def _settled(self, instruction):
        """Return an instruction with indexes for targets."""
        if instruction[0] == "jump":
            return ("jump", self.places[instruction[1]])
        if instruction[0] == "call":
            ways = [(reply, outputs, self.places[target]) for reply, outputs, target in instruction[4]]
            return instruction[:4] + (tuple(ways),)
        return instruction
