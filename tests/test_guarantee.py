"""What the document promises over the whole program (point 3), and the examples of its interface."""

import importlib
import inspect
import random
import re
import unittest
from pathlib import Path

from eachheight import errors
from eachheight.checking import check_layer
from eachheight.combining import compose_layers
from eachheight.errors import TooManyStates
from eachheight.runs import crash_results, find_run, outcomes_at, run_holds
from eachheight.systems import System
from eachheight.trees import is_tree, spec_at, tree_nodes
from tests import reference
from tests.layer_samples import CERTIFIED, TWICE, call_and_return, random_layers, same_layer
from tests.samples import CACHE, CELL
from tests.tree_samples import HIGH, LOW, MIXED, TREES, WIDE, on_bases, random_tree, twice

DOCUMENT = Path(__file__).resolve().parent.parent.parent / "shared" / "DOC.md"
UP = ("up",)
# A cell on a cache: it is written back at once, and if that is late, the whole call is given up by the spec.
WEAK = (
    (0, 1, 2), CELL[1],
    (
        ((("none", (), 0, ()),), (("late", (), 0, ()), ("late", (), 1, (0,)), ("late", (), 2, (0, 0)),
        ("ok", (), 1, (0,)))),
        ((("is", (0,), 1, (0,)),), (("late", (), 1, (0,)), ("late", (), 2, (0, 1)), ("ok", (), 1, (1,)))),
        (
            (("is", (0,), 2, (0, 1)), ("is", (1,), 2, (0, 1))),
            (("late", (), 2, (0, 1)), ("late", (), 2, (0, 2)), ("late", (), 2, (1, 2)), ("ok", (), 1, (2,))),
        ),
    ),
    (((0, ()),), ((1, (0,)),), ((1, (0,)), (1, (1,)), (2, (0, 1)))),
)
SYNCED = (
    WEAK, (CACHE,),
    (
        call_and_return(CACHE, "get"),
        (
            ("call", 0, "put", (0,), (("full", (), 3), ("ok", (), 1))),
            ("call", 0, "sync", (), (("late", (), 3), ("ok", (), 2))),
            ("return", "ok", ()),
            ("return", "late", ()),
        ),
    ),
    (UP,),
)


class GuaranteeTestCase(unittest.TestCase):
    def keeps_promises(self, system, tree):
        """Check that the history of each node has a run, and that its candidates are where runs end."""
        for node in tree_nodes(tree):
            spec, history = spec_at(tree, node), system.history(node)
            run = find_run(spec, history)
            self.assertIsNotNone(run, (node, history))
            self.assertIs(run_holds(spec, history, run), True)
            found = {(0, ())}
            for event in history:
                found = {after for config in found for after in reference.after(spec, config, event)}
            self.assertEqual(system.candidates(node), tuple(sorted(found)))
            try:
                self.assertIn(system.base_config(node), found)
            except errors.UnknownNode:
                pass


class Watched:
    """A system of which it is known where its root may be, by what the document says in words."""

    def __init__(self, test, tree, choices=()):
        self.test = test
        self.tree = tree
        self.spec = spec_at(tree, ())
        self.system = System(tree, choices=choices)
        self.configs = {(0, ())}

    def call(self, op, arguments):
        """Call an operation: it is executed exactly as it returns, or completely or not at all."""
        found = self.system.call(op, arguments)
        nexts = [outcome for config in self.configs for outcome in outcomes_at(self.spec, config, op, arguments)]
        if found is None:
            self.crashed(self.configs | {after for _, _, after in nexts})
        else:
            self.configs = {after for reply, results, after in nexts if (reply, results) == found}
        self.check()
        return found

    def crash(self):
        self.system.crash()
        self.crashed(self.configs)
        self.check()

    def crashed(self, configs):
        self.configs = {result for config in configs for result in crash_results(self.spec, config)}

    def recover(self):
        found = self.system.recover()
        self.check()
        return found

    def check(self):
        self.test.assertTrue(self.configs)
        self.test.assertEqual(self.system.candidates(()), tuple(sorted(self.configs)))


class SystematicTest(GuaranteeTestCase):
    """A crash at each base operation of calls and recoveries, and again at each one of the next recovery."""

    TREES = (
        (LOW, "put", (7,)), (twice(LOW, ("base", CELL)), "put", (7,)), (HIGH, "put", (7,)), (WIDE, "putb", (7,)),
        (on_bases(same_layer(CACHE)), "put", (7,)), (MIXED, "setb", (7, 8)), (on_bases(SYNCED), "put", (7,)),
    )

    def test_a_crash_at_each_base_operation(self):
        for tree, op, arguments in self.TREES:
            self.assertIs(is_tree(tree), True)
            for choices in ((), (1, 2, 3, 4, 5, 6, 7), (2, 1) * 20):
                step = interrupted = 0
                while interrupted == step:
                    step += 1
                    interrupted += self.crash_once(tree, op, arguments, choices, step)
                self.assertGreater(step, 1)

    def crash_once(self, tree, op, arguments, choices, step):
        """Interrupt a call at this base operation, executed or not. Return whether there is one."""
        crashed = []
        for completed in (False, True):
            watched = Watched(self, tree, choices)
            watched.call(op, tuple(value + 10 for value in arguments))
            watched.system.schedule_crash(step, completed=completed)
            crashed.append(watched.call(op, arguments) is None)
            if crashed[-1]:
                self.assertIs(watched.recover(), True)
            # Nothing is scheduled any more, or not so soon.
            watched.system.schedule_crash(999)
            for _ in range(2):
                watched.call(op, tuple(value + 20 for value in arguments))
            self.keeps_promises(watched.system, tree)
        self.assertEqual(crashed[0], crashed[1])
        return crashed[0]

    def test_crashes_during_recovery_and_again(self):
        for tree, op, arguments in self.TREES:
            for first in (1, 2, 4):
                second, more = 0, True
                while more:
                    second += 1
                    more = self.crash_in_recovery(tree, op, arguments, first, second)

    def crash_in_recovery(self, tree, op, arguments, first, second):
        """Interrupt recovery at this base operation, and again. Return whether there is one."""
        interrupted = False
        for third in range(1, 7):
            watched = Watched(self, tree, (1, 0, 2))
            watched.call(op, arguments)
            watched.system.schedule_crash(first)
            if watched.call(op, tuple(value + 10 for value in arguments)) is not None:
                watched.crash()
            # What was scheduled may still be so; this replaces it.
            watched.system.schedule_crash(second, completed=third % 2 == 0)
            if not watched.recover():
                interrupted = True
                watched.system.schedule_crash(third, completed=second % 2 == 0)
                if not watched.recover():
                    self.assertIs(watched.recover(), True)
            watched.call(op, arguments)
            self.keeps_promises(watched.system, tree)
        return interrupted


class RandomTest(GuaranteeTestCase):
    def walk(self, source, tree, length):
        choices = tuple(source.randrange(9) for _ in range(source.randrange(80)))
        watched = Watched(self, tree, choices)
        operations = watched.spec[1]
        for _ in range(length):
            kind = source.randrange(6)
            if kind == 0:
                watched.system.schedule_crash(source.randint(1, 12), completed=source.random() < 0.5)
            elif watched.system.is_down():
                watched.recover()
            elif kind == 1 or not operations:
                watched.crash()
            else:
                op, arity = source.choice(operations)
                watched.call(op, tuple(source.randrange(4) for _ in range(arity)))
        self.keeps_promises(watched.system, tree)

    def test_sample_trees(self):
        source = random.Random(150)
        for tree in TREES + tuple(map(on_bases, CERTIFIED + (SYNCED,))):
            for _ in range(12):
                self.walk(source, tree, 40)

    def test_random_trees_of_layers_with_certificates(self):
        source = random.Random(151)
        pool = list(CERTIFIED)
        for layer in random_layers(152, 1200):
            try:
                if check_layer(layer, max_states=60)[0] == "valid":
                    pool.append(layer)
            except TooManyStates:
                pass
        self.assertGreater(len(pool), 300)
        deep = 0
        for _ in range(500):
            tree = random_tree(source, pool, 3)
            if len(tree_nodes(tree)) <= 25:
                deep += max(map(len, tree_nodes(tree))) > 1
                self.walk(source, tree, 15)
        self.assertGreater(deep, 100)

    def test_composed_layers(self):
        source = random.Random(153)
        two = compose_layers(TWICE, (TWICE, same_layer(CELL)))
        for tree in (on_bases(two), ("layer", two, (LOW, LOW, ("base", CELL))), twice(on_bases(two), on_bases(TWICE))):
            for _ in range(20):
                self.walk(source, tree, 40)

    def test_layers_without_certificates_may_break_promises(self):
        # Otherwise the tests above would show nothing.
        askew = (CELL, (CELL, CELL), (TWICE[2][0], (("call", 1, "put", (0,), (("ok", (), 1),)), ("return", "ok", ()))),
            (UP,))
        self.assertEqual(check_layer(askew)[0], "invalid")
        watched = Watched(self, on_bases(askew))
        watched.call("put", (7,))
        with self.assertRaises(AssertionError):
            watched.call("get", ())
        self.assertEqual(watched.system.candidates(()), ())

    def test_a_layer_for_a_weaker_spec(self):
        self.assertEqual(check_layer(SYNCED)[0], "valid")
        # The same layer for the spec of a cell alone loses what it said was written.
        program = SYNCED[2][1][:3] + (("return", "ok", ()),)
        self.assertEqual(check_layer((CELL, (CACHE,), (SYNCED[2][0], program), (UP,)))[0], "invalid")


class InterfaceTest(unittest.TestCase):
    """All names of the interface, and its examples, taken from the document itself."""

    def setUp(self):
        if not DOCUMENT.exists():
            self.skipTest("the document is not there")
        self.text = DOCUMENT.read_text(encoding="utf-8").split("# The interface")[1]

    def examples(self):
        """Return the lines of the examples, each one behind the definitions, with its expected result."""
        blocks = re.findall(r"^```\n(.*?)^```$", self.text, re.MULTILINE | re.DOTALL)
        definitions = [line[4:] for line in blocks[0].splitlines()]
        found = []
        for block in blocks[1:]:
            lines = block.splitlines()
            code = [line[4:] for line in lines if line.startswith(">>> ")]
            found.append((definitions + code, "\n".join(line for line in lines if not line.startswith(">>> "))))
        return found

    def test_examples(self):
        examples = self.examples()
        self.assertGreater(len(examples), 40)
        for code, expected in examples:
            scope = {}
            exec("\n".join(code[:-1]), scope)
            if expected.startswith("raises "):
                name, *arguments = re.match(r"raises (\w+)(?:\((.*)\))?$", expected).groups()
                with self.assertRaises(getattr(errors, name), msg=code) as caught:
                    eval(code[-1], scope)
                if arguments[0] is not None:
                    self.assertEqual(list(vars(caught.exception).values()), [eval(arguments[0], scope)])
            else:
                self.assertEqual(repr(eval(code[-1], scope)), expected, code)

    def test_names_and_parameters(self):
        """Each function and class is defined in the file under which it is listed, with these parameters."""
        sections = re.split(r"^## eachheight/(\w+)\.py$", self.text, flags=re.MULTILINE)[1:]
        self.assertEqual(len(sections), 2 * 16)
        for file, section in zip(sections[::2], sections[1::2]):
            module = importlib.import_module(f"eachheight.{file}")
            owner = None
            for kind, name, parameters in re.findall(r"^- (class )?`(\w+)\(([^`]*)\)`", section, re.MULTILINE):
                if kind:
                    owner = None if file == "errors" else getattr(module, name)
                elif owner is not None:
                    self.has_parameters(vars(owner)[name], f"self, {parameters}".rstrip(", "))
                    continue
                thing = getattr(module, name)
                self.assertEqual(thing.__module__, module.__name__)
                if file != "errors":
                    self.has_parameters(thing, parameters)

    def has_parameters(self, thing, parameters):
        self.assertEqual(str(inspect.signature(thing))[1:-1].replace("=300", "=MAX_STATES"), parameters)

    def test_errors(self):
        classes = re.findall(r"`(\w+)\((\w*)\)`", self.text.split("## eachheight/errors.py")[1].split("## ")[0])
        self.assertGreater(len(classes), 16)
        for name, attribute in classes:
            error = getattr(errors, name)
            if name != "EachHeightError" and attribute:
                for value in (7, None, ("a", [1]), True):
                    self.assertIs(getattr(error(value), attribute), value)
                    self.assertIs(getattr(error(**{attribute: value}), attribute), value)
