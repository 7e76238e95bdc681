"""What points 13 and 14 say, once more and as plainly as possible, to compare the program with."""

from tests import reference_layers, reference_trees


def counterexample(layer, thing):
    """Return whether a value is a counterexample, by point 13 read from left to right."""
    if type(thing) is not tuple:
        return False
    state = reference_layers.first_state(layer)
    for step in thing:
        if state is None:
            return False
        known = {repr(other): after for other, after in reference_layers.steps(layer, state).items()}
        if repr(step) not in known:
            return False
        state = known[repr(step)]
    return state is None


class Scene:
    """A layer on top of plain lower specs, and what has happened so far."""

    def __init__(self, layer, values):
        self.layer = layer
        self.parts = reference_trees.nodes(("layer", layer, tuple(("base", lower) for lower in layer[1])))
        self.values = list(values)
        self.configs = [(0, ()) for _ in layer[1]]
        self.upper = []
        self.lowers = [[] for _ in layer[1]]

    def calling(self, op):
        arity = dict(self.layer[0][1])[op]
        arguments = tuple(self.values.pop(0) for _ in range(arity))
        return arguments, reference_trees.calling(self.parts, (), op, arguments)

    def recovering(self):
        return reference_trees.running(self.parts, (), self.layer[3], {})

    def drive(self, generator, path):
        """Go on along the path. Return what the program says at its end, and the spec of an unhandled reply."""
        path, last, sent = list(path), None, None
        try:
            while True:
                event = generator.send(sent)
                sent = None
                if event[0] == "base":
                    if not path:
                        return None, None
                    _, (last,), op, arguments = event
                    sent = self.execute(last, op, arguments, path.pop(0))
        except StopIteration as e:
            return e.value, None
        except reference_trees.Unhandled:
            return None, last

    def execute(self, k, op, arguments, index):
        mode, held = self.configs[k]
        spec = self.layer[1][k]
        held += arguments
        reply, results, after, kept = spec[2][mode][[name for name, _ in spec[1]].index(op)][index]
        self.configs[k] = (after, tuple(held[slot] for slot in kept))
        said = (reply, tuple(held[slot] for slot in results))
        self.lowers[k].append(("done", op, arguments) + said)
        return said

    def crash(self, choice, unhandled=None):
        for k, index in enumerate(choice):
            mode, held = self.configs[k]
            after, kept = self.layer[1][k][3][mode][index]
            self.configs[k] = (after, tuple(held[slot] for slot in kept))
            if k == unhandled:
                self.lowers[k][-1] = ("cut",) + self.lowers[k][-1][1:3]
            else:
                self.lowers[k].append(("crash",))


def replay(layer, steps, values):
    """Return the histories that the steps cause, by point 14."""
    scene = Scene(layer, values)
    for kind, *rest in steps:
        if kind == "crash":
            scene.upper.append(("crash",))
            scene.crash(rest[0])
        elif kind == "done":
            arguments, generator = scene.calling(rest[0])
            said, _ = scene.drive(generator, rest[1])
            if said is not None:
                scene.upper.append(("done", rest[0], arguments) + said)
        elif kind == "cut":
            arguments, generator = scene.calling(rest[0])
            scene.upper.append(("cut", rest[0], arguments))
            scene.crash(rest[2], scene.drive(generator, rest[1])[1])
        elif kind == "recover":
            scene.drive(scene.recovering(), rest[0])
        else:
            scene.crash(rest[1], scene.drive(scene.recovering(), rest[0])[1])
    return tuple(scene.upper), tuple(map(tuple, scene.lowers))
