"""Systems: trees that run, are watched, and whose layers may be swapped (points 17 to 19)."""

from eachheight.certificates import certificate_holds
from eachheight.errors import (
    InvalidArguments, InvalidCertificate, Mismatch, SystemDown, SystemUp, Uncovered, UnknownNode, UnknownOperation,
)
from eachheight.fitting import first_uncovered
from eachheight.layers import is_layer
from eachheight.machines import Machine
from eachheight.runs import possible_configs
from eachheight.specs import are_values, is_any_integer


class System:
    """A tree that runs."""

    def __init__(self, tree, *, choices=()):
        self.machine = Machine(tree, choices)

    def call(self, op, arguments):
        """Call an operation of the root. Return (reply, results), or None if everything crashed."""
        machine = self.machine
        self._check_up()
        arities = {name: arity for name, arity in machine.spec(())[1]}
        if not isinstance(op, str) or op not in arities:
            raise UnknownOperation(op)
        if not are_values(arguments, arities[op]):
            raise InvalidArguments(arguments)
        return machine.call((), op, arguments)

    def schedule_crash(self, step, *, completed=False):
        """Let everything crash at a base operation, counted from the next one, or right behind it."""
        self.machine.schedule(step, completed)

    def crash(self):
        """Let everything crash."""
        self._check_up()
        self.machine.crash()

    def recover(self):
        """Run the recovery programs. Return whether nothing crashed during it."""
        if not self.machine.down:
            raise SystemUp()
        return self.machine.recover()

    def step_count(self):
        """Return how many base operations were executed."""
        return self.machine.executed

    def is_down(self):
        """Return whether the system is down."""
        return self.machine.down

    def history(self, node):
        """Return the history of a node."""
        self._check_node(node, self.machine.events)
        return tuple(self.machine.events[node])

    def candidates(self, node):
        """Return the candidates of a node, ascending."""
        history = self.history(node)
        return possible_configs(self.machine.spec(node), history)

    def base_config(self, node):
        """Return the config of a base node."""
        self._check_node(node, self.machine.configs)
        return self.machine.configs[node]

    def swap_layer(self, node, layer, certificate):
        """Swap the layer of a node for one with the same upper and lower specs."""
        machine = self.machine
        self._check_up()
        self._check_node(node, machine.layers)
        if not is_layer(layer) or layer[:2] != machine.layers[node][:2]:
            raise Mismatch(0)
        if not certificate_holds(layer, certificate):
            raise InvalidCertificate()
        rows = [self.candidates(node + (k,)) for k in range(len(layer[1]))]
        configs = first_uncovered(certificate, rows, self.candidates(node))
        if configs is not None:
            raise Uncovered(configs)
        machine.layers[node] = layer

    def _check_up(self):
        if self.machine.down:
            raise SystemDown()

    def _check_node(self, node, known):
        """Check that a value is one of the nodes that are known."""
        if not isinstance(node, tuple) or not all([is_any_integer(part) for part in node]) or node not in known:
            raise UnknownNode(node)
