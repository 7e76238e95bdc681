"""What points 17 and 18 say, once more and as plainly as possible, to compare the program with."""

from tests import reference, reference_trees


class System:
    """A system that also keeps a list of all base operations that were executed."""

    def __init__(self, tree, choices=()):
        self.parts = reference_trees.nodes(tree)
        self.bases = sorted(node for node in self.parts if self.parts[node][0] == "base")
        self.configs = {node: (0, ()) for node in self.bases}
        self.choices = list(choices)
        self.histories = {node: [] for node in self.parts}
        self.up = set(self.parts)
        self.open = {}
        self.is_down = False
        self.scheduled = None
        self.log = []

    def spec(self, node):
        return reference_trees.spec_of(self.parts[node])

    def call(self, op, arguments):
        """Return the reply and the results, None after a crash, or ("unhandled", node)."""
        return self.drive(reference_trees.calling(self.parts, (), op, arguments))

    def recover(self):
        """Return True, False after a crash, or ("unhandled", node)."""
        self.is_down = False
        found = self.drive(reference_trees.recovering(self.parts, ()))
        return found or not self.is_down

    def schedule_crash(self, step, completed=False):
        self.scheduled = [step, completed]

    def drive(self, generator):
        sent = None
        try:
            while True:
                event = generator.send(sent)
                sent = self.take(*event)
                if sent == "crash":
                    return self.crash()
        except StopIteration as e:
            return e.value
        except reference_trees.Unhandled as e:
            self.crash()
            return ("unhandled", e.args[0])

    def take(self, kind, node, *rest):
        if kind == "call":
            self.open[node] = tuple(rest)
        elif kind == "return":
            self.histories[node].append(("done",) + self.open.pop(node) + tuple(rest))
        elif kind == "up":
            self.up.add(node)
        else:
            return self.execute(node, *rest)

    def execute(self, node, op, arguments):
        last, completed = False, True
        if self.scheduled:
            self.scheduled[0] -= 1
            if self.scheduled[0] == 0:
                (_, completed), last = self.scheduled, True
                self.scheduled = None
        if completed:
            mode, held = self.configs[node]
            held += arguments
            spec = self.spec(node)
            case = spec[2][mode][[name for name, _ in spec[1]].index(op)]
            reply, results, after, kept = case[self.choice(len(case))]
            self.configs[node] = (after, tuple(held[slot] for slot in kept))
            said = (reply, tuple(held[slot] for slot in results))
            self.log.append((self.bases.index(node), op, arguments) + said)
        return "crash" if last else said

    def choice(self, count):
        return self.choices.pop(0) % count if count > 1 and self.choices else 0

    def crash(self):
        for node in self.parts:
            if node in self.open:
                self.histories[node].append(("cut",) + self.open[node])
            elif node in self.up:
                self.histories[node].append(("crash",))
        for node in self.bases:
            mode, held = self.configs[node]
            entry = self.spec(node)[3][mode]
            after, kept = entry[self.choice(len(entry))]
            self.configs[node] = (after, tuple(held[slot] for slot in kept))
        self.up = set(self.bases)
        self.open = {}
        self.is_down = True

    def candidates(self, node):
        found = {(0, ())}
        spec = self.spec(node)
        for event in self.histories[node]:
            found = {after for config in found for after in reference.after(spec, config, event)}
        return tuple(sorted(found))
