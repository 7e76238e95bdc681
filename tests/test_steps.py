import random
import time
import unittest

from eachheight import steps
from eachheight.errors import BadStep, NoSuchStep
from eachheight.layers import is_layer
from eachheight.states import initial_state, is_state
from eachheight.steps import apply_step, steps_from
from tests import reference_layers
from tests.layer_samples import (
    ASKEW, BAD, DURABLE, FIVE, GOOD, LAYERS, MOVES, TWICE, call_and_return, random_layers, random_state, same_layer,
)
from tests.samples import CACHE, CELL, ODD_VALUES, PAIR, PING, SILENT, all_swaps, nested

UP = ("up",)
EMPTY = ((0, ()),)
SAME_CELL = same_layer(CELL)
SAME_CACHE = same_layer(CACHE)
SAME_PAIR = same_layer(PAIR)
LOST_OR_0 = ((1, (-1,)), (1, (0,)))


class StepTestCase(unittest.TestCase):
    def check_all(self, layer, state):
        """Compare all steps and the states after them with the reference. Return how many were bad."""
        self.assertIs(is_state(layer, state), True)
        expected = reference_layers.steps(layer, state)
        found = steps_from(layer, state)
        self.assertEqual(found, tuple(sorted(expected)))
        self.assertEqual(repr(steps_from(layer, state)), repr(found))
        for step in found:
            if expected[step] is None:
                self.bad(layer, state, step)
            else:
                after = apply_step(layer, state, step)
                self.assertEqual(after, expected[step])
                self.assertEqual(repr(apply_step(layer, state, step)), repr(after))
                self.assertIs(is_state(layer, after), True)
        return list(expected.values()).count(None)

    def bad(self, layer, state, *bad_steps):
        for step in bad_steps:
            with self.assertRaises(BadStep) as caught:
                apply_step(layer, state, step)
            self.assertEqual(repr(caught.exception.step), repr(step))

    def none(self, layer, state, *things):
        for thing in things:
            with self.assertRaises(NoSuchStep, msg=thing) as caught:
                apply_step(layer, state, thing)
            self.assertIs(caught.exception.step, thing)

    def leads(self, layer, state, step, after):
        self.assertIn(step, steps_from(layer, state))
        self.assertEqual(apply_step(layer, state, step), after)
        self.assertEqual(reference_layers.steps(layer, state)[step], after)


class ExamplesTest(unittest.TestCase):
    def test_examples_of_the_interface(self):
        down, up = ("down", EMPTY, EMPTY), ("up", EMPTY, EMPTY)
        self.assertEqual(steps_from(GOOD, down), (("recover", ()), ("recrash", (), (0,))))
        self.assertEqual(apply_step(GOOD, up, ("crash", (0,))), down)
        with self.assertRaises(BadStep) as caught:
            apply_step(BAD, up, ("done", "ping", (0,)))
        self.assertEqual(caught.exception.step, ("done", "ping", (0,)))

    def test_parameters_have_their_names(self):
        up = initial_state(GOOD)
        self.assertEqual(steps_from(layer=GOOD, state=up), steps_from(GOOD, up))
        self.assertEqual(apply_step(layer=GOOD, state=up, step=("crash", (0,))), ("down",) + up[1:])

    def test_defined_in_the_file(self):
        for name in ("steps_from", "apply_step"):
            self.assertEqual(getattr(steps, name).__module__, "eachheight.steps")


class AllStepsTest(StepTestCase):
    def test_up(self):
        self.assertEqual(steps_from(GOOD, initial_state(GOOD)), (
            ("crash", (0,)), ("cut", "ping", (), (0,)), ("cut", "ping", (0,), (0,)), ("done", "ping", (0,)),
        ))
        # The bad ones, too.
        self.assertEqual(steps_from(BAD, initial_state(BAD)), steps_from(GOOD, initial_state(GOOD)))

    def test_down(self):
        self.assertEqual(steps_from(TWICE, ("down", (EMPTY[0], EMPTY[0]), EMPTY)), (
            ("recover", (0,)), ("recrash", (), (0, 0)), ("recrash", (0,), (0, 0)),
        ))
        self.assertEqual(steps_from(TWICE, ("down", ((1, (0,)), EMPTY[0]), EMPTY)), (
            ("recover", (0, 0)), ("recrash", (), (0, 0)), ("recrash", (0,), (0, 0)), ("recrash", (0, 0), (0, 0)),
        ))

    def test_without_operations_or_calls(self):
        layer = same_layer(SILENT)
        self.assertEqual(steps_from(layer, initial_state(layer)), (("crash", (0,)),))
        self.assertEqual(
            steps_from(layer, ("down",) + initial_state(layer)[1:]), (("recover", ()), ("recrash", (), (0,)))
        )
        layer = (PING, (PING,), ((("return", "ok", ()),),), (UP,))
        self.assertEqual(
            steps_from(layer, initial_state(layer)),
            (("crash", (0,)), ("cut", "ping", (), (0,)), ("done", "ping", ())),
        )

    def test_all_outcomes_and_crash_choices(self):
        state = ("up", ((2, (0, 1)),), ((2, (0, 1)),))
        choices = ((0,), (1,), (2,))
        expected = [("crash", choice) for choice in choices]
        for op, count in (("get", 1), ("put", 2), ("sync", 2)):
            for index in range(count):
                expected.append(("done", op, (index,)))
            # Ahead of the call the mode is 2, behind it perhaps 1, which has one crash only.
            expected += [("cut", op, (), choice) for choice in choices]
            for index in range(count):
                left = choices[:1] if (op, index) == ("sync", 1) else choices
                expected += [("cut", op, (index,), choice) for choice in left]
        self.assertEqual(steps_from(SAME_CACHE, state), tuple(sorted(expected)))

    def test_paths_end_at_an_unhandled_reply(self):
        state = ("up", ((2, (0, 1)),), ((1, (0,)), (1, (1,))))
        found = [step for step in steps_from(DURABLE, state) if step[:2] in (("done", "put"), ("cut", "put"))]
        # "full" and "late"; "full", "ok" and "ok" from mode 1, which has one outcome of each; "ok", twice "late"; ..
        paths = ((0, 0), (0, 1, 0, 0, 0), (0, 1, 0, 0, 1), (0, 1, 0, 1), (1, 0, 0), (1, 0, 1), (1, 1))
        self.assertEqual(tuple(step[2] for step in found if step[0] == "done"), paths)
        prefixes = {path[:count] for path in paths for count in range(len(path) + 1)}
        self.assertEqual({step[2] for step in found if step[0] == "cut"}, prefixes)
        self.bad(DURABLE, state, ("done", "put", (0, 0)), ("done", "put", (1, 0, 0)), ("done", "put", (0, 1, 0, 0, 0)))
        for choice in ((0,), (1,), (2,)):
            self.assertEqual(apply_step(DURABLE, state, ("cut", "put", (0, 0), choice))[0], "down")

    def test_ascending(self):
        for layer in LAYERS:
            for state in reference_layers.reachable(layer)[0]:
                found = steps_from(layer, state)
                self.assertIs(type(found), tuple)
                self.assertTrue(all(low < high for low, high in zip(found, found[1:])))

    def test_crash_choices_have_one_index_for_each_lower_spec(self):
        layer = (SILENT, (CACHE, PING, CACHE), (), (UP,))
        state = ("up", ((2, (0, 1)), (0, ()), (2, (0, 2))), EMPTY)
        self.assertEqual(
            steps_from(layer, state), tuple(("crash", (low, 0, high)) for low in range(3) for high in range(3))
        )
        self.leads(layer, state, ("crash", (0, 0, 1)), ("down", ((1, (0,)), (0, ()), (1, (1,))), EMPTY))
        self.leads(layer, state, ("crash", (1, 0, 0)), ("down", ((1, (0,)), (0, ()), (1, (1,))), EMPTY))
        self.leads(layer, state, ("crash", (2, 0, 0)), ("down", ((2, (0, 1)), (0, ()), (1, (0,))), EMPTY))

    def test_reachable_states_of_all_samples(self):
        bad = 0
        for layer in LAYERS:
            for state in reference_layers.reachable(layer, 60)[0][:60]:
                bad += self.check_all(layer, state)
        self.assertGreater(bad, 10)

    def test_random_layers_and_states(self):
        source = random.Random(31)
        bad = done = 0
        for layer in random_layers(30, 500):
            for state in [random_state(source, layer) for _ in range(3)]:
                if len(reference_layers.steps(layer, state)) < 120:
                    bad += self.check_all(layer, state)
                    done += 1
        self.assertGreater(bad, 400)
        self.assertGreater(done, 1000)


class DoneTest(StepTestCase):
    def test_arguments_are_new_symbols(self):
        self.leads(SAME_CELL, initial_state(SAME_CELL), ("done", "put", (0,)), ("up", ((1, (0,)),), ((1, (0,)),)))
        state = ("up", ((1, (0,)),), ((1, (0,)),))
        self.leads(SAME_CELL, state, ("done", "put", (0,)), state)
        # Two of them, different from each other: only one of the outcomes keeps this order.
        self.leads(SAME_PAIR, initial_state(SAME_PAIR), ("done", "set", (0,)),
                   ("up", ((1, (0, 1)),), ((1, (0, 1)), (1, (1, 0)))))
        self.leads(SAME_PAIR, initial_state(SAME_PAIR), ("done", "set", (1,)),
                   ("up", ((1, (0, 1)),), ((1, (0, 1)), (1, (1, 0)))))

    def test_candidates_with_exactly_these_results(self):
        state = ("up", ((1, (0, 1)),), ((1, (0, 0)), (1, (0, 1)), (1, (1, 0)), (1, (1, 1))))
        for path in ((0,), (1,)):
            self.leads(SAME_PAIR, state, ("done", "both", path), ("up", state[1], ((1, (0, 1)), (1, (1, 0)))))
        # "swap" says "yes" with the second value (1), and the values change places, so they are renumbered.
        self.leads(SAME_PAIR, state, ("done", "swap", (1,)), ("up", ((1, (0, 1)),), ((1, (0, 0)), (1, (0, 1)))))
        self.leads(SAME_PAIR, state, ("done", "swap", (0,)), state)

    def test_candidates_with_exactly_this_reply(self):
        both = ("up", ((1, (0, 1)),), ((0, ()), (1, (0, 1))))
        self.leads(SAME_PAIR, both, ("done", "both", (0,)), ("up", ((1, (0, 1)),), ((1, (0, 1)),)))
        self.leads(SAME_PAIR, both, ("done", "swap", (0,)), both)
        only_none = ("up", ((1, (0, 1)),), ((0, ()),))
        self.bad(SAME_PAIR, only_none, ("done", "both", (0,)), ("done", "both", (1,)), ("done", "swap", (1,)))
        self.leads(SAME_PAIR, only_none, ("done", "swap", (0,)), only_none)

    def test_an_unknown_reply_or_another_number_of_results(self):
        def returning(reply, inputs):
            call = ("call", 0, "get", (), (("is", (0,), 1), ("none", (), 2)))
            program = (call, ("return", reply, inputs), ("return", "none", ()))
            return (CELL, (CELL,), (program, call_and_return(CELL, "put")), (UP,))

        state = ("up", ((1, (0,)),), ((1, (0,)),))
        self.leads(returning("is", (0,)), state, ("done", "get", (0,)), state)
        for reply, inputs in (("is", ()), ("is", (0, 0)), ("none", ()), ("never", ()), ("never", (0,)), ("none", (0,))):
            self.assertIs(is_layer(returning(reply, inputs)), True)
            self.bad(returning(reply, inputs), state, ("done", "get", (0,)))

    def test_from_several_candidates_and_outcomes(self):
        # Each candidate allows two outcomes of "set"; some lead to the same config.
        state = ("up", ((1, (0, 1)),), ((0, ()), (1, (0, 1))))
        self.leads(SAME_PAIR, state, ("done", "set", (0,)), ("up", ((1, (0, 1)),), ((1, (0, 1)), (1, (1, 0)))))
        self.leads(SAME_PAIR, state, ("done", "set", (2,)), ("up", ((1, (0, 1)),), ((1, (0, 1)),)))

    def test_lost_equals_no_symbol(self):
        state = ("up", ((1, (0,)),), LOST_OR_0)
        self.leads(SAME_CELL, state, ("done", "get", (0,)), ("up", ((1, (0,)),), ((1, (0,)),)))
        self.bad(SAME_CELL, ("up", ((1, (0,)),), ((1, (-1,)),)), ("done", "get", (0,)))
        # What is lost stays so, and goes when the candidate keeps something else.
        self.leads(SAME_CELL, ("up", ((1, (0,)),), ((1, (-1,)),)), ("done", "put", (0,)),
            ("up", ((1, (0,)),), ((1, (0,)),)))
        state = ("up", ((1, (0, 1)),), ((1, (-1, -1)), (1, (-1, 0)), (1, (-1, 1)), (1, (1, -1))))
        self.bad(SAME_PAIR, state, ("done", "both", (0,)), ("done", "both", (1,)))
        self.leads(SAME_PAIR, state, ("done", "swap", (0,)), state)
        self.leads(SAME_PAIR, state, ("done", "swap", (1,)), ("up", ((1, (0, 1)),), ((1, (0, -1)),)))

    def test_equal_symbols(self):
        state = ("up", ((1, (0, 0)),), ((1, (0, 0)),))
        for path in ((0,), (1,)):
            self.leads(SAME_PAIR, state, ("done", "both", path), state)
        self.leads(SAME_PAIR, state, ("done", "swap", (1,)), state)
        # Equal results fit different references of the upper spec.
        only_equal = ("up", ((1, (0, 0)),), ((1, (-1, 0)), (1, (0, -1)), (1, (0, 0))))
        self.leads(SAME_PAIR, only_equal, ("done", "both", (0,)), state)

    def test_an_argument_that_no_lower_spec_keeps_is_lost(self):
        layer = (CELL, (PING,), ((("return", "none", ()),), (("return", "ok", ()),)), (UP,))
        first = initial_state(layer)
        self.leads(layer, first, ("done", "put", ()), ("up", EMPTY, ((1, (-1,)),)))
        self.leads(layer, first, ("done", "get", ()), first)
        self.bad(layer, ("up", EMPTY, ((1, (-1,)),)), ("done", "get", ()))
        self.leads(layer, ("up", EMPTY, ((1, (-1,)),)), ("done", "put", ()), ("up", EMPTY, ((1, (-1,)),)))

    def test_moves_and_equal_inputs(self):
        # "set" exchanges its arguments by a move, passes the first one (now 7) twice below, and returns "ok".
        first = initial_state(MOVES)
        after = ("up", ((1, (0, 0)), (0, ())), ((1, (-1, 0)), (1, (0, -1))))
        self.leads(MOVES, first, ("done", "set", (0, 0)), after)
        self.leads(MOVES, first, ("done", "set", (0, 1)), after)
        passed = (("move", (1, 0), (0, 1)), ("call", 0, "put", (0,), (("ok", (), 2),)), ("return", "ok", ()))
        store = (PAIR, (CELL,), ((("return", "none", ()),), passed, (("return", "no", ()),)), (UP,))
        self.leads(store, initial_state(store), ("done", "set", (0,)),
                   ("up", ((1, (0,)),), ((1, (-1, 0)), (1, (0, -1)))))

    def test_results_by_moves(self):
        # An exchange of results on their way up, so the candidates are the exchanged ones.
        get = (("call", 0, "both", (), (("are", (3, 4), 1), ("none", (), 3))), ("move", (3, 4), (4, 3)),
               ("return", "are", (3, 4)), ("return", "none", ()))
        spec = ((0, 2), (("both", 0), ("set", 2)),
                (((("none", (), 0, ()),), (("ok", (), 1, (0, 1)),)),
                 ((("are", (0, 1), 1, (0, 1)),), (("ok", (), 1, (2, 3)),))),
                (((0, ()),), ((1, (0, 1)),)))
        layer = (spec, (spec,), (get, call_and_return(spec, "set")), (UP,))
        self.assertIs(is_layer(layer), True)
        state = ("up", ((1, (0, 1)),), ((1, (0, 1)), (1, (1, 0))))
        self.leads(layer, state, ("done", "both", (0,)), ("up", ((1, (0, 1)),), ((1, (1, 0)),)))
        self.bad(layer, ("up", ((1, (0, 1)),), ((1, (0, 1)),)), ("done", "both", (0,)))
        copy = (get[0], ("move", (3,), (4,)), get[2], get[3])
        layer = (spec, (spec,), (copy, call_and_return(spec, "set")), (UP,))
        state = ("up", ((1, (0, 1)),), ((1, (0, 1)), (1, (1, 1))))
        self.leads(layer, state, ("done", "both", (0,)), ("up", ((1, (0, 1)),), ((1, (1, 1)),)))

    def test_results_may_be_arguments(self):
        echo = ((0,), (("echo", 2),), (((("is", (0, 1), 0, ()), ("was", (1, 0), 0, ())),),), (((0, ()),),))
        for reply, inputs, good in (("is", (0, 1), True), ("is", (1, 0), False), ("was", (1, 0), True),
                                    ("was", (0, 1), False), ("is", (0, 0), False)):
            layer = (echo, (PING,), ((("return", reply, inputs),),), (UP,))
            if good:
                self.leads(layer, initial_state(layer), ("done", "echo", ()), initial_state(layer))
            else:
                self.bad(layer, initial_state(layer), ("done", "echo", ()))

    def test_an_unhandled_reply_is_bad_whatever_the_candidates(self):
        layer = (PING, (PING,), ((("call", 0, "ping", (), ()), ("return", "ok", ())),), (UP,))
        self.assertEqual(steps_from(layer, initial_state(layer)), steps_from(GOOD, initial_state(GOOD)))
        self.bad(layer, initial_state(layer), ("done", "ping", (0,)))
        self.leads(layer, initial_state(layer), ("cut", "ping", (0,), (0,)), ("down", EMPTY, EMPTY))


class CrashTest(StepTestCase):
    def test_each_choice(self):
        state = ("up", ((2, (0, 1)),), ((2, (0, 1)),))
        self.leads(SAME_CACHE, state, ("crash", (0,)), ("down", ((1, (0,)),), ((1, (-1,)), (1, (0,)), (2, (0, -1)))))
        self.leads(SAME_CACHE, state, ("crash", (1,)), ("down", ((1, (0,)),), ((1, (-1,)), (1, (0,)), (2, (-1, 0)))))
        self.leads(SAME_CACHE, state, ("crash", (2,)), ("down", ((2, (0, 1)),), ((1, (0,)), (1, (1,)), (2, (0, 1)))))

    def test_of_several_candidates(self):
        state = ("up", ((1, (0, 1)),), ((1, (-1, 1)), (1, (0, 1))))
        self.leads(SAME_PAIR, state, ("crash", (2,)), (
            "down", state[1], ((0, ()), (1, (-1, -1)), (1, (-1, 1)), (1, (0, 0)), (1, (0, 1)), (1, (1, 1)))
        ))
        self.leads(SAME_PAIR, state, ("crash", (0,)), ("down", EMPTY, ((0, ()), (1, (-1, -1)))))
        self.leads(SAME_PAIR, state, ("crash", (3,)), (
            "down", ((1, (0, 0)),), ((0, ()), (1, (-1, -1)), (1, (-1, 0)), (1, (0, 0)))
        ))

    def test_lost_in_a_crash(self):
        once = ((0, 1), CELL[1], CELL[2], (((0, ()),), ((0, ()),)))
        layer = (CELL, (once,)) + SAME_CELL[2:]
        state = ("up", ((1, (0,)),), ((1, (0,)),))
        self.leads(layer, state, ("crash", (0,)), ("down", EMPTY, ((1, (-1,)),)))
        self.bad(layer, ("up", EMPTY, ((1, (-1,)),)), ("done", "get", (0,)))


class CutTest(StepTestCase):
    BOTH = ("up", ((1, (0,)), (1, (0,))), ((1, (0,)),))

    def test_after_no_call_some_and_all(self):
        self.leads(TWICE, self.BOTH, ("cut", "put", (), (0, 0)), ("down", self.BOTH[1], LOST_OR_0))
        self.leads(TWICE, self.BOTH, ("cut", "put", (0,), (0, 0)),
                   ("down", ((1, (0,)), (1, (1,))), ((1, (0,)), (1, (1,)))))
        self.leads(TWICE, self.BOTH, ("cut", "put", (0, 0), (0, 0)), ("down", self.BOTH[1], LOST_OR_0))
        self.leads(TWICE, self.BOTH, ("cut", "get", (), (0, 0)), ("down",) + self.BOTH[1:])
        self.leads(TWICE, self.BOTH, ("cut", "get", (0,), (0, 0)), ("down",) + self.BOTH[1:])

    def test_candidates_are_those_of_all_outcomes(self):
        # The program may have returned any reply, also one that it never gives.
        first = initial_state(BAD)
        self.leads(BAD, first, ("cut", "ping", (0,), (0,)), ("down", EMPTY, EMPTY))
        state = ("up", ((1, (0, 1)),), ((0, ()),))
        self.leads(SAME_PAIR, state, ("cut", "both", (0,), (2,)), ("down", state[1], EMPTY))
        self.leads(SAME_PAIR, state, ("cut", "set", (2,), (2,)), ("down", state[1], ((0, ()), (1, (-1, -1)))))
        # Both orders of the arguments, each kept by each crash: also one argument twice.
        self.leads(SAME_PAIR, state, ("cut", "set", (0,), (2,)), (
            "down", state[1], ((0, ()), (1, (0, 0)), (1, (0, 1)), (1, (1, 0)), (1, (1, 1)))
        ))
        self.leads(SAME_PAIR, state, ("cut", "set", (0,), (1,)), (
            "down", ((1, (0, 0)),), ((0, ()), (1, (-1, -1)), (1, (-1, 0)), (1, (0, -1)), (1, (0, 0)))
        ))

    def test_not_executed_or_executed_and_then_a_crash(self):
        state = ("up", ((1, (0,)),), ((1, (0,)),))
        # Lower values: the old one is safe, the new one may be lost. The upper spec allows the same.
        self.leads(SAME_CACHE, state, ("cut", "put", (0,), (0,)),
                   ("down", ((1, (0,)),), ((1, (-1,)), (1, (0,)), (2, (0, -1)))))
        self.leads(SAME_CACHE, state, ("cut", "put", (0,), (1,)),
                   ("down", ((1, (0,)),), ((1, (-1,)), (1, (0,)), (2, (-1, 0)))))
        self.leads(SAME_CACHE, state, ("cut", "put", (0,), (2,)),
                   ("down", ((2, (0, 1)),), ((1, (0,)), (1, (1,)), (2, (0, 1)))))
        self.leads(SAME_CACHE, state, ("cut", "put", (), (0,)),
                   ("down", ((1, (0,)),), ((1, (-1,)), (1, (0,)), (2, (0, -1)))))

    def test_an_unhandled_reply_is_no_fault_then(self):
        state = ("up", ((2, (0, 1)),), ((1, (0,)), (1, (1,))))
        self.bad(DURABLE, state, ("done", "put", (0, 0)))
        self.leads(DURABLE, state, ("cut", "put", (0, 0), (0,)), ("down", ((1, (0,)),), LOST_OR_0))
        self.leads(DURABLE, state, ("cut", "put", (0, 0), (2,)),
                   ("down", ((2, (0, 1)),), ((1, (-1,)), (1, (0,)), (1, (1,)))))
        # Its outcome has been taken: "sync" in mode 2 may have replied "ok", and only mode 1 is left.
        forgets = (CELL, (CACHE,), (DURABLE[2][0], (("call", 0, "sync", (), ()), ("return", "ok", ()))), (UP,))
        self.leads(forgets, state, ("cut", "put", (1,), (0,)), ("down", ((1, (0,)),), LOST_OR_0))
        self.none(forgets, state, ("cut", "put", (1,), (1,)), ("cut", "put", (1,), (2,)))

    def test_no_call_behind_a_crash(self):
        self.none(TWICE, self.BOTH, ("cut", "put", (0, 0, 0), (0, 0)), ("cut", "get", (0, 0), (0, 0)))


class RecoveryTest(StepTestCase):
    TORN = ("down", ((1, (0,)), (1, (1,))), ((1, (0,)), (1, (1,))))

    def test_recover(self):
        self.leads(TWICE, self.TORN, ("recover", (0, 0)), ("up", ((1, (0,)), (1, (0,))), LOST_OR_0))
        first = initial_state(TWICE)
        self.leads(TWICE, ("down",) + first[1:], ("recover", (0,)), first)

    def test_candidates_stay_even_if_they_are_wrong(self):
        state = ("down", ((1, (0,)), (0, ())), ((0, ()), (1, (-1,))))
        self.leads(TWICE, state, ("recover", (0, 0)), ("up", ((1, (0,)), (1, (0,))), state[2]))
        self.leads(GOOD, ("down", EMPTY, EMPTY), ("recover", ()), ("up", EMPTY, EMPTY))

    def test_recrash(self):
        self.leads(TWICE, self.TORN, ("recrash", (), (0, 0)), self.TORN)
        self.leads(TWICE, self.TORN, ("recrash", (0,), (0, 0)), self.TORN)
        self.leads(TWICE, self.TORN, ("recrash", (0, 0), (0, 0)), ("down", ((1, (0,)), (1, (0,))), LOST_OR_0))

    def test_candidates_do_not_crash_again(self):
        state = ("down", ((2, (0, 1)),), ((2, (0, 1)),))
        self.leads(SAME_CACHE, state, ("recrash", (), (2,)), state)
        self.leads(SAME_CACHE, state, ("recrash", (), (0,)), ("down", ((1, (0,)),), ((2, (0, -1)),)))
        self.leads(SAME_CACHE, state, ("recrash", (), (1,)), ("down", ((1, (0,)),), ((2, (-1, 0)),)))
        self.leads(SAME_CACHE, state, ("recover", ()), ("up",) + state[1:])

    def test_unhandled(self):
        state = ("down", ((0, ()), (1, (0,))), ((0, ()), (1, (0,))))
        self.assertEqual(steps_from(ASKEW, state), (
            ("recover", (0,)), ("recrash", (), (0, 0)), ("recrash", (0,), (0, 0)),
        ))
        self.bad(ASKEW, state, ("recover", (0,)))
        self.leads(ASKEW, state, ("recrash", (0,), (0, 0)), state)
        self.leads(ASKEW, ("down", ((1, (0,)), (0, ())), ((1, (0,)),)), ("recover", (0,)),
                   ("up", ((1, (0,)), (0, ())), ((1, (0,)),)))

    def test_calls_with_several_outcomes(self):
        state = ("down", ((2, (0, 1)),), ((1, (0,)), (1, (1,))))
        self.assertEqual(
            [step for step in steps_from(DURABLE, state) if step[0] == "recover"],
            [("recover", (0,)), ("recover", (1,))],
        )
        self.leads(DURABLE, state, ("recover", (0,)), ("up",) + state[1:])
        self.leads(DURABLE, state, ("recover", (1,)), ("up", ((1, (0,)),), LOST_OR_0))
        self.leads(DURABLE, state, ("recrash", (1,), (0,)), ("down", ((1, (0,)),), LOST_OR_0))
        self.none(DURABLE, state, ("recrash", (1,), (1,)))

    def test_five_lower_specs(self):
        state = ("down", ((0, ()), (1, (0,)), (1, (1,)), (1, (2, 0)), (0, ())), EMPTY)
        self.check_all(FIVE, state)
        self.leads(FIVE, state, ("recrash", (1,), (0, 0, 0, 3, 0)),
                   ("down", ((0, ()), (1, (0,)), (1, (1,)), (1, (0, 0)), (0, ())), EMPTY))


class NoSuchStepTest(StepTestCase):
    STATES = (
        (TWICE, ("up", ((1, (0,)), (1, (0,))), ((1, (0,)),))),
        (TWICE, ("down", ((1, (0,)), (1, (1,))), ((1, (0,)), (1, (1,))))),
        (SAME_CACHE, ("up", ((2, (0, 1)),), ((2, (0, 1)),))),
        (DURABLE, ("up", ((2, (0, 1)),), ((1, (0,)), (1, (1,))))),
        (DURABLE, ("down", ((2, (0, 1)),), ((1, (0,)), (1, (1,))))),
        (BAD, ("up", EMPTY, EMPTY)),
    )

    def test_other_values(self):
        for layer, state in self.STATES:
            self.none(layer, state, *ODD_VALUES)
            self.none(layer, state, *[nested(depth) for depth in range(30)])
            self.none(layer, state, *[[step] for step in steps_from(layer, state)])

    def test_paths(self):
        layer, state = self.STATES[3]
        wrong = ((), (0,), (1,), (0, 1), (0, 1, 0), (0, 0, 0), (1, 1, 0), (2,), (-1, 1), (1, 2), (1, -1),
                 (0, 1, 1, 0), (0, 2), (1, True), (True, 1), (False, 0), (True, True), (1, None), (1, "1"), (1, (1,)),
                 [1, 1], {1: 1}, None, 1, "11")
        self.none(layer, state, *[("done", "put", path) for path in wrong])
        # The first ones are only too short for an end, so a cut may come behind them.
        self.none(layer, state, *[("cut", "put", path, (0,)) for path in wrong[5:]])
        for path in wrong[:5]:
            self.assertEqual(apply_step(layer, state, ("cut", "put", path, (0,)))[0], "down")

    def test_choices(self):
        layer, state = self.STATES[2]
        for choice in ((), (3,), (-1,), (0, 0), (True,), (False,), (None,), ("0",), ((0,),), [0], {0: 0}, 0, None,
                       "0", (10 ** 39,)):
            self.none(layer, state, ("crash", choice), ("cut", "put", (), choice), ("cut", "put", (1,), choice))
            self.none(layer, ("down",) + state[1:], ("recrash", (), choice))
        layer, state = self.STATES[0]
        for choice in ((), (0,), (0, 0, 0), (0, 1), (1, 0), (0, False), (False, 0), [0, 0]):
            self.none(layer, state, ("crash", choice), ("cut", "put", (0,), choice))

    def test_operations(self):
        layer, state = self.STATES[0]
        for op in ("sync", "Put", "", "pu", "putt", None, 0, True, (), ("put",), ["put"], {"put": 0}):
            self.none(layer, state, ("done", op, (0, 0)), ("cut", op, (), (0, 0)), ("cut", op, (0, 0), (0, 0)))

    def test_kinds(self):
        layer, up = self.STATES[0]
        down = ("down",) + up[1:]
        for step in steps_from(layer, up):
            self.none(layer, down, step)
            for kind in ("Done", "", "do", "recover", "recrash", None, 0, True, (), ("cut",), ["cut"], {}):
                self.none(layer, up, (kind,) + step[1:])
        for step in steps_from(layer, down):
            self.none(layer, up, step)
            for kind in ("Recover", "crash", "done", "cut", None, 0, True, (), ["recover"], {}):
                self.none(layer, down, (kind,) + step[1:])
        self.none(layer, up, ("recover", ()), ("recrash", (), (0, 0)), ("recover", (0, 0)))
        self.none(layer, down, ("crash", (0, 0)))

    def test_changed_steps_at_any_depth(self):
        extras = ((), 0, 1, "put", None, (0,), True)

        def others(part):
            if isinstance(part, tuple):
                copies = [part[:at] + part[at + 1:] for at in range(len(part))]
                copies += [part[:at] + part[at:at + 1] + part[at:] for at in range(len(part))]
                copies += [part[:at] + (extra,) + part[at:] for extra in extras for at in (0, len(part))]
                return copies + [part[::-1], list(part), dict(enumerate(part)), None, str(part), (part,)]
            if isinstance(part, int):
                return [bool(part), part + 1, part + 2, part - 1, -1, str(part), None, (part,)]
            return [part.upper(), "get", "put", "sync", "cut", "done", "crash", "recover", "recrash", (part,), None, 0]

        found = []
        for layer, state in self.STATES:
            known = reference_layers.steps(layer, state)
            names = {repr(step): step for step in known}
            for step in known:
                for thing in all_swaps(step, others):
                    if repr(thing) not in names:
                        self.none(layer, state, thing)
                    elif known[thing] is None:
                        self.bad(layer, state, thing)
                    else:
                        self.assertEqual(apply_step(layer, state, thing), known[thing])
                    found.append(repr(thing) in names)
        self.assertGreater(found.count(True), 100)
        self.assertGreater(found.count(False), 1000)

    def test_bools_are_other_values(self):
        layer, state = self.STATES[5]
        self.bad(layer, state, ("done", "ping", (0,)))
        self.none(layer, state, ("done", "ping", (False,)), ("cut", "ping", (False,), (0,)),
            ("cut", "ping", (0,), (False,)))
        self.none(layer, state, ("crash", (False,)))
        layer, state = self.STATES[2]
        self.assertEqual(apply_step(layer, state, ("crash", (1,)))[0], "down")
        self.none(layer, state, ("crash", (True,)), ("done", "sync", (True,)), ("done", "sync", (False,)))

    def test_bad_steps_are_steps(self):
        for layer, state in self.STATES:
            known = reference_layers.steps(layer, state)
            for step in known:
                if known[step] is None:
                    self.bad(layer, state, step)
                    self.none(layer, state, step + ((),), step[:-1], list(step))

    def test_arguments_stay(self):
        layer, state = self.STATES[0]
        thing = ("done", "put", [0, {"a": [0]}])
        self.none(layer, state, thing)
        self.assertEqual(thing, ("done", "put", [0, {"a": [0]}]))


class LimitsTest(StepTestCase):
    # A lower spec with three values of which a crash may keep all, or one alone.
    RESULTS = ((1, (0, 0, 0)), (1, (0, 1, 2)), (1, (1, 1, 1)), (1, (2, 2, 2)))
    LOWER = (
        (0, 3), (("put", 1),), (((("ok", (), 1, (0, 0, 0)),),), ((("ok", (), 1, (3, 0, 1)),),)), (((0, ()),), RESULTS),
    )
    NAMES = ("a", "b", "c", "d", "e")

    def setUp(self):
        self.started = time.monotonic()

    def tearDown(self):
        self.assertLess(time.monotonic() - self.started, 30)

    def layer(self, *counts):
        """Return a layer whose programs have these numbers of calls."""
        case = (("ok", (), 1, (0, 1, 2)),)
        upper = (
            (0, 3), tuple((name, 1) for name in self.NAMES),
            (((("ok", (), 1, (0, 0, 0)),),) * 5, (case,) * 5), (((0, ()),), ((1, (0, 1, 2)),)),
        )
        programs = tuple(
            tuple(("call", at % 2, "put", (0,), (("ok", (), at + 1),)) for at in range(count)) + (("return", "ok", ()),)
            for count in counts
        )
        return (upper, (self.LOWER, self.LOWER), programs, (UP,))

    def state(self, phase):
        symbols = [(low, middle, high) for low in range(-1, 6) for middle in (-1, 0, 5) for high in range(2, 6)]
        candidates = tuple(sorted((1, row) for row in symbols))[:59]
        return (phase, ((1, (0, 1, 2)), (1, (3, 4, 5))), EMPTY + candidates)

    def test_sixty_candidates_and_four_hundred_steps(self):
        layer = self.layer(15, 1, 1, 1, 0)
        self.assertIs(is_layer(layer), True)
        self.assertEqual(len(layer[2][0]), 16)
        state = self.state("up")
        self.assertEqual(len(state[2]), 60)
        self.assertEqual(len(steps_from(layer, state)), 389)
        self.check_all(layer, state)
        self.check_all(layer, self.state("down"))

    def test_fifteen_calls_in_recovery(self):
        layer = self.layer(0, 0, 0, 0, 0)
        calls = tuple(("call", at % 2, "put", (0,), (("ok", (), at + 2),)) for at in range(14))
        first = ("call", 0, "get", (), (("is", (0,), 1), ("no", (), 15)))
        cases = self.LOWER[2]
        lower = (
            self.LOWER[0], (("get", 0),) + self.LOWER[1],
            (((("no", (), 0, ()),),) + cases[0], ((("is", (1,), 1, (0, 1, 2)),),) + cases[1]), self.LOWER[3],
        )
        layer = (layer[0], (lower, self.LOWER), layer[2], (first,) + calls + (UP,))
        self.assertIs(is_layer(layer), True)
        self.assertEqual(len(layer[3]), 16)
        self.check_all(layer, self.state("down"))
        self.leads(layer, ("down", ((0, ()), (0, ())), EMPTY), ("recover", (0,)), ("up", ((0, ()), (0, ())), EMPTY))

    def test_longer_programs(self):
        layer = self.layer(60, 0, 0, 0, 0)
        path = (0,) * 60
        state = self.state("up")
        self.assertEqual(apply_step(layer, state, ("done", "a", path))[1], ((1, (0, 0, 0)), (1, (0, 0, 0))))
        self.none(layer, state, ("done", "a", path[1:]), ("done", "a", path + (0,)))

    def test_large_values(self):
        layer, state = self.layer(15, 1, 1, 1, 0), self.state("up")
        many = (0,) * 29990
        self.none(
            layer, state, many, ("done", "a", many), ("cut", "a", many, (0, 0)), ("cut", "a", (), many),
            ("crash", many), ("done", "a" * 8000, ()), ("done",) + many, [many], {at: () for at in range(14000)},
            ("crash", (many, many)), ("done", "a", ((),) * 29990), ("cut", many, many[:10], many[:10]),
            ("crash", (10 ** 39, -10 ** 39)),
        )
