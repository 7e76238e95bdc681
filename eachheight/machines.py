"""How a tree runs: calls, crashes, recovery, and what the nodes see of it (points 17 and 18)."""

from eachheight.errors import UnhandledReply
from eachheight.moments import UNHANDLED, first_moment, is_over, next_call, resumed, symbols_of
from eachheight.runs import START, listed_crashes, listed_outcomes
from eachheight.specs import operation_index
from eachheight.trees import nodes_from_below, part_at, tree_nodes


class Machine:
    """A tree that runs, with what its nodes have seen."""

    def __init__(self, tree, choices):
        parts = {node: part_at(tree, node) for node in tree_nodes(tree)}
        self.layers = {node: part[1] for node, part in parts.items() if part[0] == "layer"}
        self.bases = {node: part[1] for node, part in parts.items() if part[0] == "base"}
        self.recovery_order = [node for node in nodes_from_below(tree) if node in self.layers]
        self.configs = {node: START for node in self.bases}
        self.events = {node: [] for node in parts}
        # Each call that has not returned, by its node: a node has at most one.
        self.running = {}
        self.risen = {node: True for node in parts}
        self.down = False
        self.choices = choices
        self.taken = 0
        # How many base operations it takes until everything crashes. 0: none is scheduled.
        self.countdown = 0
        self.completed = False
        self.executed = 0

    def spec(self, node):
        """Return the spec of a node."""
        return self.bases[node] if node in self.bases else self.layers[node][0]

    def schedule(self, step, completed):
        """Let everything crash at this base operation from now, or right behind it."""
        self.countdown = step
        self.completed = completed

    def call(self, node, op, arguments):
        """Call an operation of a node. Return its reply and results, or None if everything crashed."""
        self.running[node] = (op, arguments)
        if node in self.bases:
            answer = self._execute(node, op, arguments)
        else:
            answer = self._operate(node, op, arguments)
        if answer is not None:
            del self.running[node]
            self.events[node].append(("done", op, arguments) + answer)
        return answer

    def crash(self):
        """Let everything crash."""
        for node in list(self.events):
            if node in self.running:
                self.events[node].append(("cut",) + self.running[node])
            elif node in self.risen:
                self.events[node].append(("crash",))
        for node, spec in self.bases.items():
            self.configs[node] = self._chosen(listed_crashes(spec, self.configs[node]))
        self.running = {}
        self.risen = {node: True for node in self.bases}
        self.down = True

    def recover(self):
        """Run the recovery programs. Return whether nothing crashed during it."""
        for node in self.recovery_order:
            if self._run(node, self.layers[node][3], ()) is None:
                return False
            self.risen[node] = True
        self.down = False
        return True

    def _execute(self, node, op, arguments):
        """Execute a base operation, unless a crash comes first. Return its answer, or None."""
        is_last = self.countdown == 1
        self.countdown = max(0, self.countdown - 1)
        if is_last and not self.completed:
            self.crash()
            return None
        outcomes = listed_outcomes(self.bases[node], self.configs[node], op, arguments)
        reply, results, config = self._chosen(outcomes)
        self.configs[node] = config
        self.executed += 1
        if is_last:
            self.crash()
            return None
        return (reply, results)

    def _operate(self, node, op, arguments):
        """Run the program of an operation of a layer. Return what it replies, or None."""
        upper, _, programs, _ = self.layers[node]
        program = programs[operation_index(upper, op)]
        moment = self._run(node, program, arguments)
        if moment is None:
            return None
        place, variables, _ = moment
        _, reply, inputs = program[place]
        return (reply, symbols_of(variables, inputs))

    def _run(self, node, program, arguments):
        """Run a program of a layer. Return its last moment, or None if everything crashed."""
        moment = first_moment(program, arguments, ())
        while not is_over(program, moment):
            k, op, given = next_call(program, moment)
            answer = self.call(node + (k,), op, given)
            if answer is None:
                return None
            reply, results = answer
            moment = resumed(program, moment, reply, results, ())
        if moment[0] == UNHANDLED:
            self.crash()
            raise UnhandledReply(node)
        return moment

    def _chosen(self, things):
        """Return the one that the next choice says, or the first one if none is left or needed."""
        if len(things) == 1 or self.taken == len(self.choices):
            return things[0]
        choice = self.choices[self.taken]
        self.taken += 1
        return things[choice % len(things)]
