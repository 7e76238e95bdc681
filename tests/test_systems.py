import inspect
import random
import time
import unittest

from eachheight import systems
from eachheight.errors import (
    InvalidArguments, SystemDown, SystemUp, UnhandledReply, UnknownNode, UnknownOperation,
)
from eachheight.layers import is_layer
from eachheight.systems import System
from eachheight.trees import is_tree, tree_nodes
from tests import reference_systems, reference_trees
from tests.layer_samples import ASKEW, BAD, DURABLE, TWICE, call_and_return, random_layers, same_layer
from tests.samples import CACHE, CELL, ODD_VALUES, PAIR, PING, SILENT, nested
from tests.tree_samples import BASE, HIGH, LOW, MIXED, TREES, WIDE, on_bases, random_tree, twice

UP = ("up",)
CRASH = ("crash",)
PUT_7 = ("done", "put", (7,), "ok", ())
GET_7 = ("done", "get", (), "is", (7,))


class SystemTestCase(unittest.TestCase):
    def is_like(self, system, model):
        """Compare all that can be seen of a system with the reference."""
        self.assertIs(system.is_down(), model.is_down)
        self.assertEqual(system.step_count(), len(model.log))
        for node in model.parts:
            self.assertEqual(system.history(node), tuple(model.histories[node]), node)
        for node in model.bases:
            self.assertEqual(system.base_config(node), model.configs[node], node)

    def has_candidates_like(self, system, model):
        for node in model.parts:
            self.assertEqual(system.candidates(node), model.candidates(node), node)

    def call_both(self, system, model, op, arguments):
        """Call both. Return what they return, or the error of an unhandled reply."""
        expected = model.call(op, arguments)
        if expected is not None and expected[0] == "unhandled":
            self.unhandled(expected[1], system.call, op, arguments)
        else:
            self.assertEqual(system.call(op, arguments), expected)
        self.is_like(system, model)
        return expected

    def recover_both(self, system, model):
        expected = model.recover()
        if isinstance(expected, tuple):
            self.unhandled(expected[1], system.recover)
        else:
            self.assertIs(system.recover(), expected)
        self.is_like(system, model)
        return expected

    def unhandled(self, node, method, *arguments):
        with self.assertRaises(UnhandledReply) as caught:
            method(*arguments)
        self.assertEqual(caught.exception.node, node)


class ExamplesTest(unittest.TestCase):
    def setUp(self):
        self.system = System(("base", CELL))
        self.system.call("put", (7,))

    def crashed(self):
        self.system.schedule_crash(1)
        return self.system.call("put", (8,))

    def test_call(self):
        self.assertEqual(self.system.call("get", ()), ("is", (7,)))

    def test_schedule_crash(self):
        self.assertIsNone(self.system.schedule_crash(1))
        self.assertEqual([self.system.call("put", (8,)), self.system.is_down()], [None, True])

    def test_crash(self):
        self.assertIsNone(self.system.crash())
        with self.assertRaises(SystemDown):
            self.system.crash()

    def test_recover(self):
        self.assertIsNone(self.crashed())
        self.assertEqual([self.system.recover(), self.system.call("get", ())], [True, ("is", (7,))])

    def test_step_count(self):
        self.crashed()
        self.assertEqual(self.system.step_count(), 1)

    def test_is_down(self):
        self.assertIs(self.system.is_down(), False)
        self.crashed()
        self.assertIs(self.system.is_down(), True)

    def test_history(self):
        self.crashed()
        self.assertEqual(self.system.history(()), (PUT_7, ("cut", "put", (8,))))

    def test_candidates(self):
        self.crashed()
        self.assertEqual(self.system.candidates(()), ((1, (7,)), (1, (8,))))

    def test_base_config(self):
        self.crashed()
        self.assertEqual(self.system.base_config(()), (1, (7,)))


class InterfaceTest(unittest.TestCase):
    def test_parameters(self):
        for method, names in (
            (System.__init__, ["self", "tree", "choices"]), (System.call, ["self", "op", "arguments"]),
            (System.schedule_crash, ["self", "step", "completed"]), (System.crash, ["self"]),
            (System.recover, ["self"]), (System.step_count, ["self"]), (System.is_down, ["self"]),
            (System.history, ["self", "node"]), (System.candidates, ["self", "node"]),
            (System.base_config, ["self", "node"]), (System.swap_layer, ["self", "node", "layer", "certificate"]),
        ):
            self.assertEqual(list(inspect.signature(method).parameters), names)
            self.assertIn(method.__name__, vars(System))
        system = System(tree=("base", CELL), choices=(1,))
        self.assertEqual(system.call(op="put", arguments=(7,)), ("ok", ()))
        system.schedule_crash(step=1, completed=True)
        self.assertIsNone(system.call(op="put", arguments=(8,)))
        self.assertEqual(system.history(node=()), (PUT_7, ("cut", "put", (8,))))
        self.assertEqual(system.candidates(node=()), ((1, (7,)), (1, (8,))))
        self.assertEqual(system.base_config(node=()), (1, (8,)))

    def test_by_name_only(self):
        with self.assertRaises(TypeError):
            System(BASE, ())
        with self.assertRaises(TypeError):
            System(BASE).schedule_crash(1, True)

    def test_defined_in_the_file(self):
        self.assertEqual(systems.System.__module__, "eachheight.systems")

    def test_new_systems(self):
        for tree in TREES:
            system = System(tree)
            self.assertIs(system.is_down(), False)
            self.assertEqual(system.step_count(), 0)
            for node in tree_nodes(tree):
                self.assertEqual(system.history(node), ())
                self.assertEqual(system.candidates(node), ((0, ()),))
            for node, part in reference_trees.nodes(tree).items():
                if part[0] == "base":
                    self.assertEqual(system.base_config(node), (0, ()))

    def test_systems_share_nothing(self):
        first, second = System(LOW), System(LOW)
        first.call("put", (7,))
        first.schedule_crash(1)
        before = first.history(())
        self.assertEqual((second.history(()), second.step_count()), ((), 0))
        self.assertEqual(second.call("get", ()), ("none", ()))
        second.crash()
        self.assertEqual((first.is_down(), first.history(())), (False, before))
        # What was returned does not change with the system.
        first.call("get", ())
        self.assertEqual(before, (PUT_7,))

    def test_nothing_changes_by_looking(self):
        system = System(WIDE, choices=(1, 2, 3))
        system.call("puta", (7,))
        for _ in range(2):
            for node in tree_nodes(WIDE):
                self.assertEqual(system.history(node), system.history(node))
                self.assertEqual(system.candidates(node), system.candidates(node))
            self.assertEqual((system.step_count(), system.is_down()), (3, False))
        self.assertEqual(system.call("geta", ()), ("is", (7,)))


class ErrorsTest(unittest.TestCase):
    def raises(self, error, attributes, method, *arguments):
        with self.assertRaises(error) as caught:
            method(*arguments)
        self.assertIs(type(caught.exception), error)
        for name, value in attributes.items():
            self.assertIs(getattr(caught.exception, name), value)

    def test_down(self):
        for tree in TREES:
            system = System(tree)
            system.crash()
            before = system.history(())
            self.raises(SystemDown, {}, system.crash)
            # Also if the operation and the arguments are wrong, too.
            for op in ("put", "never", None, []):
                for arguments in ((), (7,), None, {}):
                    self.raises(SystemDown, {}, system.call, op, arguments)
            self.assertEqual((system.history(()), system.step_count(), system.is_down()), (before, 0, True))
            # All else works.
            self.assertIsNone(system.schedule_crash(90))
            self.assertEqual(system.history(()), (CRASH,))
            self.assertEqual(len(system.candidates(())), 1)
            self.assertIs(system.recover(), True)

    def test_up(self):
        for tree in TREES:
            system = System(tree)
            self.raises(SystemUp, {}, system.recover)
            system.crash()
            system.recover()
            self.raises(SystemUp, {}, system.recover)
            self.assertEqual(system.history(()), (CRASH,))

    def test_unknown_operations(self):
        for tree in (BASE, LOW, HIGH):
            system = System(tree)
            things = ODD_VALUES + ("Get", "ge", "gets", "ping", "geta", ("get",), ["get"], {"get": 0}, ("get", 0),
                b"get")
            for op in things + tuple(nested(depth) for depth in range(30)):
                for arguments in ((), (7,), None):
                    self.raises(UnknownOperation, {"op": op}, system.call, op, arguments)
            self.assertEqual((system.history(()), system.step_count()), ((), 0))
        self.raises(UnknownOperation, {}, System(("base", SILENT)).call, "get", ())

    def test_invalid_arguments(self):
        for tree in (BASE, LOW):
            system = System(tree)
            for arguments in ODD_VALUES + (
                (-1,), (10 ** 9 + 1,), (True,), (False,), (None,), ("7",), ((7,),), ([7],), [7], {0: 7}, 7, (7, 7),
                (1.0,),
            ):
                self.raises(InvalidArguments, {"arguments": arguments}, system.call, "put", arguments)
                if arguments != () or not isinstance(arguments, tuple):
                    self.raises(InvalidArguments, {"arguments": arguments}, system.call, "get", arguments)
            self.assertEqual((system.history(()), system.step_count()), ((), 0))
            self.assertEqual(system.call("put", (10 ** 9,)), ("ok", ()))
            self.assertEqual(system.call("get", ()), ("is", (10 ** 9,)))
            self.assertEqual(system.call("put", (0,)), ("ok", ()))
        system = System(("base", PAIR))
        for arguments in ((), (1,), (1, 2, 3), (1, True), (False, 1), [1, 2], ((1, 2),)):
            self.raises(InvalidArguments, {"arguments": arguments}, system.call, "set", arguments)
        self.assertEqual(system.call("set", (1, 1)), ("ok", ()))

    def test_a_scheduled_crash_stays_over_errors(self):
        system = System(BASE)
        system.schedule_crash(1)
        self.raises(UnknownOperation, {}, system.call, "never", ())
        self.raises(InvalidArguments, {}, system.call, "put", ())
        self.raises(SystemUp, {}, system.recover)
        self.assertIsNone(system.call("put", (7,)))
        self.raises(SystemDown, {}, system.call, "put", (7,))

    def test_unknown_nodes(self):
        for tree in TREES:
            system = System(tree)
            nodes = tree_nodes(tree)
            things = [thing for thing in ODD_VALUES if thing != () or not isinstance(thing, tuple)]
            things += [nested(depth) for depth in range(1, 30)]
            things += [node + (len(nodes),) for node in nodes] + [node + (-1,) for node in nodes]
            things += [(False,), (True,), (0, False), (False, 0), [0], {0: 0}, 0, (None,), ("0",), ((0,),), (10 ** 39,),
                (0, 0, 0, 0)]
            for thing in things:
                if repr(thing) not in [repr(node) for node in nodes]:
                    self.raises(UnknownNode, {"node": thing}, system.history, thing)
                    self.raises(UnknownNode, {"node": thing}, system.candidates, thing)
                    self.raises(UnknownNode, {"node": thing}, system.base_config, thing)
            for node, part in reference_trees.nodes(tree).items():
                if part[0] == "layer":
                    self.raises(UnknownNode, {"node": node}, system.base_config, node)
            system.crash()
            self.raises(UnknownNode, {}, system.history, (9,))


class ChoicesTest(SystemTestCase):
    def configs(self, spec, calls, choices):
        """Return the configs that calls lead through, with these choices."""
        system, model = System(("base", spec), choices=choices), reference_systems.System(("base", spec), choices)
        found = []
        for op, arguments in calls:
            if op == "crash":
                system.crash()
                system.recover()
                model.crash()
                model.recover()
            else:
                self.call_both(system, model, op, arguments)
            self.is_like(system, model)
            found.append(system.base_config(()))
        return found

    def test_the_index_of_an_outcome(self):
        calls = (("set", (3, 4)), ("set", (5, 6)))
        # The first case has two outcomes, the second one has three.
        for first in range(7):
            for second in range(7):
                found = self.configs(PAIR, calls, (first, second))
                self.assertEqual(found[0], (1, ((3, 4), (4, 3))[first % 2]))
                self.assertEqual(found[1], (1, ((5, 6), (6, 5), found[0][1])[second % 3]))

    def test_the_index_of_a_crash(self):
        for choice in (0, 1, 2, 3, 4, 5, 1000, 10 ** 39):
            found = self.configs(PAIR, (("set", (3, 4)), ("crash", ())), (0, choice))
            self.assertEqual(found[1], ((0, ()), (1, (3, 3)), (1, (3, 4)), (1, (4, 4)))[choice % 4])

    def test_choices_used_up(self):
        calls = (("set", (3, 4)), ("set", (5, 6)), ("crash", ()))
        for choices, expected in (
            ((), [(1, (3, 4)), (1, (5, 6)), (0, ())]), ((1,), [(1, (4, 3)), (1, (5, 6)), (0, ())]),
            ((1, 1), [(1, (4, 3)), (1, (6, 5)), (0, ())]), ((1, 1, 1), [(1, (4, 3)), (1, (6, 5)), (1, (6, 6))]),
            ((1, 1, 1, 1), [(1, (4, 3)), (1, (6, 5)), (1, (6, 6))]),
        ):
            self.assertEqual(self.configs(PAIR, calls, choices), expected)

    def test_none_is_used_if_there_is_only_one(self):
        calls = (("both", ()), ("swap", ()), ("crash", ()), ("set", (3, 4)))
        self.assertEqual(self.configs(PAIR, calls, (1,))[-1], (1, (4, 3)))

    def test_several_that_come_to_the_same(self):
        # With equal arguments all outcomes come to the same, and all crashes, too; they are several all the same.
        calls = (("set", (3, 3)), ("set", (5, 6)), ("crash", ()))
        for first in (0, 1):
            self.assertEqual(self.configs(PAIR, calls, (first, 1, 2)), [(1, (3, 3)), (1, (6, 5)), (1, (6, 5))])
        calls = (("set", (3, 3)), ("crash", ()), ("set", (5, 6)))
        for choice in (1, 2, 3):
            self.assertEqual(self.configs(PAIR, calls, (0, choice, 1)), [(1, (3, 3)), (1, (3, 3)), (1, (6, 5))])

    def test_an_outcome_is_chosen_before_crashes(self):
        for choices, expected in (((1, 2), (1, (4, 3))), ((0, 3), (1, (4, 4))), ((1, 1), (1, (4, 4))), ((1,), (0, ()))):
            system = System(("base", PAIR), choices=choices)
            system.schedule_crash(1, completed=True)
            self.assertIsNone(system.call("set", (3, 4)))
            self.assertEqual(system.base_config(()), expected)
        # If it is not executed, no outcome is chosen.
        system = System(("base", PAIR), choices=(0, 0, 3))
        system.call("set", (3, 4))
        system.schedule_crash(1)
        system.call("set", (5, 6))
        self.assertEqual(system.base_config(()), (0, ()))
        self.assertIs(system.recover(), True)
        system.call("set", (5, 6))
        self.assertEqual(system.base_config(()), (1, (6, 5)))

    def test_base_nodes_crash_in_ascending_order(self):
        layer = (SILENT, (PAIR, CELL, PAIR), (), (("call", 0, "set", (), ()), UP))
        setting = (
            ("call", 0, "set", (0, 1), (("ok", (), 1),)), ("call", 2, "set", (0, 1), (("ok", (), 2),)),
            ("return", "ok", ()),
        )
        spec = ((0,), (("set", 2),), (((("ok", (), 0, ()),),),), (((0, ()),),))
        layer = (spec, (PAIR, CELL, PAIR), (setting,), (UP,))
        self.assertIs(is_layer(layer), True)
        for low in range(4):
            for high in range(4):
                system = System(on_bases(layer), choices=(0, 0, low, high))
                self.assertEqual(system.call("set", (3, 4)), ("ok", ()))
                system.crash()
                results = ((0, ()), (1, (3, 3)), (1, (3, 4)), (1, (4, 4)))
                self.assertEqual(system.base_config((0,)), results[low])
                self.assertEqual(system.base_config((2,)), results[high])
                self.assertEqual(system.base_config((1,)), (0, ()))

    def test_replies(self):
        for choice, reply in ((0, "full"), (1, "ok"), (2, "full"), (3, "ok")):
            system = System(("base", CACHE), choices=(choice,))
            system.call("put", (3,))
            system.call("put", (4,))
            self.assertEqual(system.call("put", (5,))[0], reply)


class ScheduleTest(SystemTestCase):
    CALLS = (("put", (7,)), ("get", ()), ("put", (8,)), ("get", ()))

    def pair(self, tree, choices=()):
        return System(tree, choices=choices), reference_systems.System(tree, choices)

    def schedule_both(self, system, model, step, completed):
        system.schedule_crash(step, completed=completed)
        model.schedule_crash(step, completed)

    def test_each_base_operation_of_calls_and_recoveries(self):
        for tree in (BASE, LOW, twice(LOW, BASE), HIGH):
            for step in range(1, 60):
                for completed in (False, True):
                    system, model = self.pair(tree)
                    self.schedule_both(system, model, step, completed)
                    crashed = False
                    for op, arguments in self.CALLS * 2:
                        if self.call_both(system, model, op, arguments) is None:
                            crashed = True
                            self.assertIs(self.recover_both(system, model), True)
                    self.has_candidates_like(system, model)
                    self.assertEqual(crashed, model.scheduled is None)
                    self.assertTrue(crashed or step > 8)

    def test_twice_in_the_same_recovery(self):
        for tree in (LOW, HIGH):
            for first in range(1, 24, 3):
                for second in range(1, 16):
                    for third in (1, 4):
                        self.crash_again(tree, first, second, third)

    def crash_again(self, tree, first, second, third):
        system, model = self.pair(tree)
        self.call_both(system, model, "put", (7,))
        self.schedule_both(system, model, first, first % 2 == 0)
        for number in range(9):
            if self.call_both(system, model, "put", (number,)) is None:
                break
        for step in (second, third):
            if model.is_down:
                self.schedule_both(system, model, step, (step + second) % 2 == 0)
                self.recover_both(system, model)
        while model.is_down:
            self.recover_both(system, model)
        self.has_candidates_like(system, model)
        found = self.call_both(system, model, "get", ())
        self.assertTrue(found is None or found[0] == "is")

    def test_not_executed_and_executed(self):
        for completed, count, config in ((False, 1, (1, (7,))), (True, 2, (1, (8,)))):
            system = System(BASE)
            system.call("put", (7,))
            system.schedule_crash(1, completed=completed)
            self.assertIsNone(system.call("put", (8,)))
            self.assertEqual((system.step_count(), system.base_config(())), (count, config))
            self.assertEqual(system.history(()), (PUT_7, ("cut", "put", (8,))))
            self.assertEqual(system.candidates(()), ((1, (7,)), (1, (8,))))

    def test_completed_in_the_last_base_operation(self):
        # All is done, but the reply does not arrive.
        system, model = self.pair(LOW)
        self.schedule_both(system, model, 2, True)
        self.assertIsNone(self.call_both(system, model, "put", (7,)))
        self.assertEqual(system.history((1,)), (("cut", "put", (7,)),))
        self.assertEqual(system.history((0,)), (PUT_7, CRASH))
        self.assertEqual(system.history(()), (("cut", "put", (7,)),))
        self.recover_both(system, model)
        self.assertEqual(self.call_both(system, model, "get", ()), ("is", (7,)))

    def test_one_beyond(self):
        system, model = self.pair(LOW)
        self.schedule_both(system, model, 3, False)
        self.assertEqual(self.call_both(system, model, "put", (7,)), ("ok", ()))
        self.assertIsNone(self.call_both(system, model, "get", ()))

    def test_replaced(self):
        system, model = self.pair(BASE)
        self.schedule_both(system, model, 2, True)
        self.call_both(system, model, "put", (7,))
        # The count begins anew.
        self.schedule_both(system, model, 3, False)
        self.call_both(system, model, "put", (8,))
        self.call_both(system, model, "put", (9,))
        self.assertIsNone(self.call_both(system, model, "put", (10,)))
        self.assertEqual(system.base_config(()), (1, (9,)))
        self.recover_both(system, model)
        # It happens once.
        for number in range(5):
            self.assertEqual(self.call_both(system, model, "put", (number,)), ("ok", ()))

    def test_replaced_by_an_earlier_one(self):
        system = System(BASE)
        system.schedule_crash(5, completed=True)
        system.schedule_crash(1)
        self.assertIsNone(system.call("put", (7,)))
        self.assertEqual(system.base_config(()), (0, ()))
        system.recover()
        for number in range(9):
            self.assertIsNotNone(system.call("put", (number,)))

    def test_it_stays_over_other_crashes(self):
        system, model = self.pair(LOW)
        self.call_both(system, model, "put", (7,))
        # Two base operations of recovery after the first crash, and the last one is in the next call.
        self.schedule_both(system, model, 3, False)
        system.crash()
        model.crash()
        self.is_like(system, model)
        self.assertIs(self.recover_both(system, model), True)
        self.assertIsNone(self.call_both(system, model, "put", (8,)))
        self.assertEqual(system.history((0,))[-1], ("cut", "put", (8,)))

    def test_it_stays_over_unhandled_replies(self):
        program = (("call", 0, "ping", (), ()), ("return", "ok", ()))
        tree = on_bases((PING, (PING,), (program,), (UP,)))
        system, model = self.pair(tree)
        self.schedule_both(system, model, 3, False)
        for _ in range(2):
            self.assertEqual(self.call_both(system, model, "ping", ()), ("unhandled", ()))
            self.recover_both(system, model)
        self.assertIsNone(self.call_both(system, model, "ping", ()))

    def test_while_down(self):
        system, model = self.pair(LOW)
        self.call_both(system, model, "put", (7,))
        system.crash()
        model.crash()
        self.schedule_both(system, model, 2, True)
        self.assertIs(self.recover_both(system, model), False)
        self.assertIs(system.is_down(), True)
        self.assertIs(self.recover_both(system, model), True)
        self.assertEqual(self.call_both(system, model, "get", ()), ("is", (7,)))

    def test_crash_by_hand_does_not_count(self):
        system = System(BASE)
        system.schedule_crash(2)
        for _ in range(3):
            system.crash()
            self.assertIs(system.recover(), True)
        self.assertEqual(system.call("put", (7,)), ("ok", ()))
        self.assertIsNone(system.call("put", (8,)))


class HistoriesTest(SystemTestCase):
    def test_all_nodes_of_a_cut_call(self):
        system = System(twice(LOW, LOW))
        system.call("put", (7,))
        system.schedule_crash(2)
        self.assertIsNone(system.call("put", (8,)))
        cut = ("cut", "put", (8,))
        put_8 = ("done", "put", (8,), "ok", ())
        self.assertEqual([system.history(node) for node in ((), (0,), (0, 0), (0, 1), (1,), (1, 0))], [
            (PUT_7, cut), (PUT_7, cut), (PUT_7, put_8, CRASH), (PUT_7, cut), (PUT_7, CRASH), (PUT_7, CRASH),
        ])
        # The second copy is behind, and each level repairs its own.
        self.assertEqual([system.base_config(node)[1] for node in ((0, 0), (0, 1), (1, 0), (1, 1))],
            [(8,), (7,), (7,), (7,)])
        self.assertIs(system.recover(), True)
        self.assertEqual([system.base_config(node)[1] for node in ((0, 0), (0, 1), (1, 0), (1, 1))], [(8,)] * 4)
        self.assertEqual(system.history(()), (PUT_7, cut))
        get_8 = ("done", "get", (), "is", (8,))
        self.assertEqual(system.history((0,)), (PUT_7, cut, get_8))
        self.assertEqual(system.history((1,)), (PUT_7, CRASH, put_8))
        self.assertEqual(system.history((0, 1)), (PUT_7, cut, put_8))
        self.assertEqual(system.history((1, 0)), (PUT_7, CRASH, GET_7, put_8))
        self.assertEqual(system.candidates(()), ((1, (7,)), (1, (8,))))
        self.assertEqual(system.candidates((0,)), ((1, (8,)),))

    def test_crashes_while_a_node_is_down_are_not_in_its_history(self):
        system = System(twice(LOW, LOW))
        system.call("put", (7,))
        system.crash()
        # In recovery, base operations 1 and 2 are those of node (0,), then those of (1,), then those of the root.
        for step, expected in (
            # Only base nodes were up.
            (1, {(): 0, (0,): 0, (1,): 0, (0, 0): "cut", (0, 1): 1, (1, 0): 1}),
            (2, {(): 0, (0,): 0, (1,): 0, (0, 0): 1, (0, 1): "cut", (1, 0): 1}),
            # Node (0,) was up again, node (1,) was not.
            (3, {(): 0, (0,): 1, (1,): 0, (0, 0): 1, (0, 1): 1, (1, 0): "cut"}),
            (4, {(): 0, (0,): 1, (1,): 0, (0, 0): 1, (0, 1): 1, (1, 1): "cut"}),
            # Both were up; the root, whose recovery calls them, was not.
            (5, {(): 0, (0,): "cut", (1,): 1, (0, 0): "cut", (0, 1): 1, (1, 0): 1}),
            (6, {(): 0, (0,): 1, (1,): "cut", (1, 0): "cut", (0, 1): 1, (0, 0): 1}),
            (7, {(): 0, (0,): 1, (1,): "cut", (1, 0): 1, (1, 1): "cut", (0, 0): 1}),
        ):
            before = {node: system.history(node) for node in expected}
            system.schedule_crash(step)
            self.assertIs(system.recover(), False)
            for node, what in expected.items():
                added = system.history(node)[len(before[node]):]
                kinds = [event[0] for event in added if event[0] != "done"]
                self.assertEqual(kinds, {0: [], 1: ["crash"], "cut": ["cut"]}[what], (step, node))
        self.assertIs(system.recover(), True)
        self.assertEqual(system.history(()), (PUT_7, CRASH))
        self.assertEqual(system.call("get", ()), ("is", (7,)))

    def test_base_nodes_are_never_down(self):
        system = System(BASE)
        system.crash()
        self.assertIs(system.is_down(), True)
        self.assertEqual(system.history(()), (CRASH,))
        self.assertIs(system.recover(), True)
        system.crash()
        self.assertEqual(system.history(()), (CRASH, CRASH))

    def test_an_unhandled_reply_during_a_call(self):
        # The layer in the middle does not handle "full".
        put = (("call", 0, "put", (0,), (("ok", (), 1),)), ("return", "ok", ()))
        layer = (CELL, (CACHE,), (call_and_return(CACHE, "get"), put), (UP,))
        tree = twice(on_bases(layer), BASE)
        self.assertIs(is_tree(tree), True)
        system, model = System(tree, choices=(0,)), reference_systems.System(tree, (0,))
        self.call_both(system, model, "put", (7,))
        self.call_both(system, model, "put", (8,))
        self.assertEqual(self.call_both(system, model, "put", (9,)), ("unhandled", (0,)))
        cut, full = ("cut", "put", (9,)), ("done", "put", (9,), "full", ())
        self.assertEqual([system.history(node)[2:] for node in ((), (0,), (0, 0), (1,))], [
            (cut,), (cut,), (full, CRASH), (CRASH,),
        ])
        self.assertIs(system.is_down(), True)
        self.assertEqual(system.step_count(), 5)
        # It was executed, and then there was a crash, which keeps the older value here.
        self.assertEqual(system.base_config((0, 0)), (1, (7,)))
        self.assertIs(self.recover_both(system, model), True)
        self.assertEqual(self.call_both(system, model, "get", ()), ("is", (7,)))

    def test_an_unhandled_reply_during_recovery(self):
        tree = twice(on_bases(ASKEW), on_bases(same_layer(CELL)))
        system, model = System(tree), reference_systems.System(tree)
        self.call_both(system, model, "put", (7,))
        system.crash()
        model.crash()
        for count in (1, 2):
            self.assertEqual(self.recover_both(system, model), ("unhandled", (0,)))
            self.assertIs(system.is_down(), True)
            none = ("done", "get", (), "none", ())
            self.assertEqual(system.history((0, 0)), (CRASH,) + (none, CRASH) * count)
            self.assertEqual(system.history((0, 1)), (PUT_7, CRASH) + (CRASH,) * count)
            self.assertEqual(system.history((1, 0)), (PUT_7, CRASH) + (CRASH,) * count)
            # These were not up.
            self.assertEqual(system.history((0,)), (PUT_7, CRASH))
            self.assertEqual(system.history((1,)), (PUT_7, CRASH))
            self.assertEqual(system.history(()), (PUT_7, CRASH))

    def test_an_unhandled_reply_of_a_child_during_recovery(self):
        # The root does not expect that its first child is empty; the child is up by then.
        recovery = (("call", 1, "get", (), (("is", (5,), 1), ("none", (), 1))),
            ("call", 0, "get", (), (("is", (5,), 2),)), UP)
        tree = ("layer", TWICE[:3] + (recovery,), (LOW, LOW))
        self.assertIs(is_tree(tree), True)
        system, model = System(tree), reference_systems.System(tree)
        system.crash()
        model.crash()
        self.assertEqual(self.recover_both(system, model), ("unhandled", ()))
        none = ("done", "get", (), "none", ())
        self.assertEqual([system.history(node) for node in ((), (0,), (1,))],
            [(CRASH,), (CRASH, none, CRASH), (CRASH, none, CRASH)])

    def test_another_number_of_results(self):
        for results, count in (((), 0), ((0,), 1), ((0, 0), 2)):
            get = (("call", 0, "get", (), (("is", (0,), 1), ("none", (), 2))), ("return", "is", results),
                ("return", "none", ()))
            layer = (CELL, (CELL,), (get, call_and_return(CELL, "put")), (UP,))
            tree = ("layer", same_layer(CELL), (on_bases(layer),))
            self.assertIs(is_tree(tree), True)
            system, model = System(tree), reference_systems.System(tree)
            self.call_both(system, model, "put", (7,))
            found = self.call_both(system, model, "get", ())
            self.assertEqual(found, ("is", (7,)) if count == 1 else ("unhandled", ()))
            self.assertEqual(system.history((0,))[1], ("done", "get", (), "is", (7,) * count))
            self.assertEqual(system.history((0,))[2:], () if count == 1 else (CRASH,))
            self.assertEqual(system.history(())[1], GET_7 if count == 1 else ("cut", "get", ()))
            self.assertEqual(system.candidates((0,)), ((1, (7,)),) if count == 1 else ())
            # Nobody is above this one, so it just returns that.
            self.assertEqual(System(on_bases(layer)).call("get", ()), ("none", ()))
            alone = System(on_bases(layer))
            alone.call("put", (7,))
            self.assertEqual(alone.call("get", ()), ("is", (7,) * count))

    def test_a_reply_that_the_spec_does_not_have(self):
        tree = ("layer", same_layer(PING), (on_bases(BAD),))
        system, model = System(tree), reference_systems.System(tree)
        self.assertEqual(self.call_both(system, model, "ping", ()), ("unhandled", ()))
        self.assertEqual(system.history((0,)), (("done", "ping", (), "no", ()), CRASH))
        self.assertEqual((system.candidates((0,)), system.candidates((0, 0))), ((), ((0, ()),)))
        system = System(on_bases(BAD))
        self.assertEqual(system.call("ping", ()), ("no", ()))
        self.assertEqual(system.candidates(()), ())

    def test_candidates_of_layers(self):
        system = System(on_bases(same_layer(CACHE)))
        for number in (3, 4):
            system.call("put", (number,))
        system.schedule_crash(1, completed=True)
        system.call("put", (5,))
        for node in ((), (0,)):
            self.assertEqual(system.candidates(node), ((1, (3,)), (1, (4,)), (1, (5,)), (2, (3, 4)), (2, (3, 5))))
        self.assertEqual(system.base_config((0,)), (1, (3,)))
        system.recover()
        self.assertEqual(system.call("get", ()), ("is", (3,)))
        self.assertEqual(system.candidates(()), ((1, (3,)),))

    def test_without_operations(self):
        for tree in (("base", SILENT), on_bases(same_layer(SILENT))):
            system = System(tree)
            for _ in range(3):
                system.crash()
                self.assertIs(system.recover(), True)
            self.assertEqual(system.history(()), (CRASH,) * 3)
            self.assertEqual(system.step_count(), 0)


class RandomTest(SystemTestCase):
    def walk(self, source, tree, length):
        choices = tuple(source.randrange(9) for _ in range(source.randrange(60)))
        system, model = System(tree, choices=choices), reference_systems.System(tree, choices)
        operations = model.spec(())[1]
        found = []
        for _ in range(length):
            kind = source.randrange(6)
            if kind == 0:
                step, completed = source.randint(1, 9), source.random() < 0.5
                system.schedule_crash(step, completed=completed)
                model.schedule_crash(step, completed)
            elif model.is_down:
                found.append(self.recover_both(system, model))
            elif kind == 1 or not operations:
                system.crash()
                model.crash()
                self.is_like(system, model)
            else:
                op, arity = source.choice(operations)
                found.append(self.call_both(system, model, op, tuple(source.randrange(4) for _ in range(arity))))
        self.has_candidates_like(system, model)
        return [what for what in found if isinstance(what, tuple) and what[0] == "unhandled"]

    def test_samples(self):
        source = random.Random(101)
        for tree in TREES + (twice(on_bases(DURABLE), on_bases(ASKEW)), on_bases(DURABLE),
            ("layer", TWICE, (HIGH, LOW))):
            for _ in range(25):
                self.walk(source, tree, 30)

    def test_random_trees(self):
        source = random.Random(102)
        pool = random_layers(103, 250)
        unhandled = deep = 0
        for _ in range(700):
            tree = random_tree(source, pool, 3)
            if len(reference_trees.nodes(tree)) <= 25:
                nodes = self.walk(source, tree, 15)
                unhandled += len(nodes)
                deep += len([node for _, node in nodes if node != ()])
        self.assertGreater(unhandled, 300)
        self.assertGreater(deep, 50)


class LimitsTest(SystemTestCase):
    def setUp(self):
        self.started = time.monotonic()

    def tearDown(self):
        self.assertLess(time.monotonic() - self.started, 30)

    def test_sixty_calls_and_four_hundred_base_operations(self):
        source = random.Random(104)
        choices = tuple(source.randrange(100) for _ in range(200))
        for tree in (HIGH, WIDE, MIXED):
            system, model = System(tree, choices=choices), reference_systems.System(tree, choices)
            for number in range(60):
                if number % 10 == 4:
                    system.schedule_crash(7, completed=number % 20 == 4)
                    model.schedule_crash(7, number % 20 == 4)
                elif model.is_down:
                    self.recover_both(system, model)
                else:
                    op, arity = source.choice([operation for operation in model.spec(())[1] if operation[1]])
                    self.call_both(system, model, op, tuple(source.randrange(9) for _ in range(arity)))
            self.has_candidates_like(system, model)
        self.assertGreater(system.step_count(), 40)

    def test_long_programs(self):
        calls = tuple(("call", at % 2, "ping", (), (("ok", (), at + 1),)) for at in range(15))
        low = (PING, (PING, PING), (calls + (("return", "ok", ()),),), (UP,))
        tree = ("layer", low, (on_bases(low), ("base", PING)))
        system = System(tree)
        for count in (127, 254, 381, 508):
            self.assertEqual(system.call("ping", ()), ("ok", ()))
            self.assertEqual(system.step_count(), count)
        self.assertEqual(len(system.history((0, 0))), 4 * 8 * 8)
        self.assertEqual(system.candidates((0, 0)), ((0, ()),))

    def test_two_hundred_candidates(self):
        # Three values, each of which an interrupted call may have changed, and six modes.
        spec = (
            (0, 3), (("fill", 0), ("set", 2)),
            (((("ok", (), 0, ()),), (("ok", (), 1, (0, 1, 1)),)),
             ((("ok", (), 1, (0, 1, 2)),),
             (("ok", (), 1, (0, 1, 4)), ("ok", (), 1, (0, 3, 2)), ("ok", (), 1, (3, 1, 2))))),
            (((0, ()),), ((1, (0, 1, 2)),)),
        )
        system, model = System(("base", spec)), reference_systems.System(("base", spec))
        self.call_both(system, model, "set", (0, 1))
        for number in range(2, 14, 2):
            system.schedule_crash(1)
            model.schedule_crash(1)
            self.call_both(system, model, "set", (number, number + 1))
            self.recover_both(system, model)
        self.assertGreater(len(system.candidates(())), 200)
        self.has_candidates_like(system, model)
