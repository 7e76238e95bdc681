import itertools
import random
import time
import unittest

from eachheight import counterexamples
from eachheight.counterexamples import counterexample_holds, replay
from eachheight.layers import is_layer
from eachheight.runs import find_run
from eachheight.states import initial_state
from eachheight.steps import steps_from
from tests import reference, reference_layers, reference_replay
from tests.layer_samples import (
    ASKEW, BAD, CERTIFIED, DURABLE, FIVE, GOOD, LAYERS, MOVES, TWICE, random_layers, same_layer,
)
from tests.samples import CACHE, CELL, ODD_VALUES, PING, SILENT, all_swaps, nested

UP = ("up",)
CRASH = ("crash",)
SAME_CELL = same_layer(CELL)
# Counterexamples of several layers, each with steps of several kinds.
FOUND = (
    (BAD, (("done", "ping", (0,)),)),
    (BAD, (("crash", (0,)), ("recover", ()), ("done", "ping", (0,)))),
    (BAD, (("cut", "ping", (0,), (0,)), ("recrash", (), (0,)), ("recover", ()), ("done", "ping", (0,)))),
    (ASKEW, (("done", "put", (0,)), ("done", "get", (0,)))),
    (ASKEW, (("crash", (0, 0)), ("recover", (0,)))),
    (ASKEW, (("cut", "put", (0,), (0, 0)), ("recrash", (0,), (0, 0)), ("recrash", (), (0, 0)), ("recover", (0,)))),
    (DURABLE, (("done", "put", (0, 0)), ("done", "put", (0, 0, 0)))),
    (DURABLE, (
        ("done", "put", (0, 0)), ("cut", "put", (0, 0), (2,)), ("recrash", (0,), (2,)), ("recover", (0,)),
        ("done", "put", (0, 0)),
    )),
    (MOVES, (("done", "set", (0, 1)), ("done", "both", (1,)))),
)


class CounterexampleTestCase(unittest.TestCase):
    def holds(self, layer, thing):
        found = counterexample_holds(layer, thing)
        self.assertIs(type(found), bool)
        self.assertIs(counterexample_holds(layer, thing), found)
        self.assertEqual(found, reference_replay.counterexample(layer, thing), thing)
        return found

    def good(self, layer, *things):
        for thing in things:
            self.assertTrue(self.holds(layer, thing), thing)

    def wrong(self, layer, *things):
        for thing in things:
            self.assertFalse(self.holds(layer, thing), thing)


class CounterexampleTest(CounterexampleTestCase):
    def test_example_of_the_interface(self):
        self.assertIs(counterexample_holds(BAD, (("done", "ping", (0,)),)), True)

    def test_parameters_have_their_names(self):
        self.assertIs(counterexample_holds(layer=BAD, thing=(("done", "ping", (0,)),)), True)
        self.assertEqual(replay(layer=BAD, steps=(("crash", (0,)),), values=()), ((CRASH,), ((CRASH,),)))

    def test_defined_in_the_file(self):
        for name in ("counterexample_holds", "replay"):
            self.assertEqual(getattr(counterexamples, name).__module__, "eachheight.counterexamples")

    def test_samples(self):
        for layer, steps in FOUND:
            self.good(layer, steps)

    def test_the_empty_one(self):
        for layer in LAYERS:
            self.wrong(layer, ())

    def test_without_the_end_the_beginning_or_a_step(self):
        for layer, steps in FOUND:
            self.wrong(layer, *[steps[:at] for at in range(len(steps))])
            for at in range(1, len(steps)):
                self.holds(layer, steps[at:])
                self.holds(layer, steps[:at] + steps[at + 1:])
        self.wrong(BAD, FOUND[1][1][1:], FOUND[1][1][:1] + FOUND[1][1][2:])
        self.good(BAD, FOUND[1][1][2:])
        self.wrong(ASKEW, FOUND[3][1][1:], FOUND[4][1][1:], FOUND[5][1][1:])
        # It crashes once more or once less there.
        self.good(ASKEW, FOUND[5][1][:1] + FOUND[5][1][2:], FOUND[5][1][:2] + FOUND[5][1][3:])

    def test_repeated(self):
        for layer, steps in FOUND:
            self.wrong(layer, steps + steps, steps + steps[-1:], steps + (("crash", (0,)),))
            for at in range(len(steps)):
                self.holds(layer, steps[:at] + steps[at:at + 1] + steps[at:])
        # A step that may be taken twice.
        self.good(BAD, FOUND[2][1][:2] + FOUND[2][1][1:])
        self.wrong(BAD, FOUND[1][1][:1] + FOUND[1][1])

    def test_reversed(self):
        for layer, steps in FOUND:
            if len(steps) > 1:
                self.wrong(layer, steps[::-1])

    def test_steps_from_elsewhere(self):
        for (layer, steps), (_, others) in itertools.product(FOUND, FOUND):
            for at in range(len(steps)):
                self.holds(layer, steps[:at] + others[:1] + steps[at + 1:])
                self.holds(layer, steps[:at] + others)
        self.wrong(GOOD, *[steps for layer, steps in FOUND if layer is BAD])
        self.wrong(TWICE, *[steps for layer, steps in FOUND if layer is ASKEW])
        self.wrong(ASKEW, *[steps for layer, steps in FOUND if layer is not ASKEW])

    def test_a_bad_step_that_is_not_the_last(self):
        bad = ("done", "ping", (0,))
        self.good(BAD, (bad,), (("crash", (0,)), ("recover", ()), bad))
        self.wrong(BAD, (bad, bad), (bad, ("crash", (0,)), ("recover", ()), bad), (bad, ("crash", (0,))))

    def test_steps_that_are_not_bad(self):
        for layer in LAYERS:
            for step in steps_from(layer, initial_state(layer)):
                after = reference_layers.steps(layer, initial_state(layer))[step]
                self.assertEqual(self.holds(layer, (step,)), after is None)

    def test_layers_with_certificates_have_none(self):
        for layer in CERTIFIED:
            for steps in itertools.product(steps_from(layer, initial_state(layer))[:6], repeat=2):
                self.wrong(layer, steps, steps[:1])

    def test_unhandled_replies(self):
        layer = (PING, (PING,), ((("call", 0, "ping", (), ()), ("return", "ok", ())),),
            (("call", 0, "ping", (), ()), UP))
        self.good(layer, (("done", "ping", (0,)),), (("crash", (0,)), ("recover", (0,))))
        # An unhandled reply ahead of a crash is not bad.
        self.wrong(layer, (("cut", "ping", (0,), (0,)),), (("crash", (0,)), ("recrash", (0,), (0,))))
        self.good(layer, (("cut", "ping", (0,), (0,)), ("recrash", (0,), (0,)), ("recover", (0,))))

    def test_other_values(self):
        for layer in (BAD, GOOD, ASKEW):
            self.wrong(layer, *ODD_VALUES)
            self.wrong(layer, *[nested(depth) for depth in range(30)])
        for layer, steps in FOUND:
            self.wrong(layer, list(steps), dict(enumerate(steps)), (steps,), steps[-1], [steps], str(steps))
            for thing in ODD_VALUES:
                self.wrong(layer, steps + (thing,), (thing,) + steps, steps[:-1] + (thing,))

    def test_arguments_stay(self):
        thing = (["done", [0]], {"a": [0]})
        self.assertFalse(counterexample_holds(BAD, thing))
        self.assertEqual(thing, (["done", [0]], {"a": [0]}))


class ChangedCounterexamplesTest(CounterexampleTestCase):
    def test_other_kinds_at_any_depth(self):
        def other_kinds(part):
            if isinstance(part, tuple):
                return [list(part), dict(enumerate(part)), None, str(part), [part], (part,)]
            if isinstance(part, int):
                return [bool(part), str(part), None, (part,), [part], part + 10 ** 30, -3 - part]
            return [part.upper(), part + " ", (part,), [part], None, {part: part}]

        for layer, steps in FOUND:
            for thing in all_swaps(steps, other_kinds):
                self.assertIs(counterexample_holds(layer, thing), False, thing)

    def test_parts_removed_repeated_or_added_at_any_depth(self):
        extras = ((), 0, 1, "put", None, ("crash", (0,)), ("recover", ()), True)

        def other_parts(part):
            if isinstance(part, int):
                return [number for number in (-1, 0, 1, 2) if number != part]
            if isinstance(part, str):
                return ["done", "cut", "crash", "recover", "recrash", "put", "get", "ping", "set"]
            copies = [part[:at] + part[at + 1:] for at in range(len(part))]
            copies += [part[:at] + part[at:at + 1] + part[at:] for at in range(len(part))]
            copies += [part[::-1]]
            return copies + [part[:at] + (extra,) + part[at:] for extra in extras for at in (0, len(part))]

        found = []
        for layer, steps in FOUND:
            for thing in all_swaps(steps, other_parts):
                found.append(self.holds(layer, thing))
        self.assertGreater(found.count(True), 20)
        self.assertGreater(found.count(False), 1000)

    def test_random_walks(self):
        source = random.Random(61)
        found = []
        for layer in random_layers(60, 900):
            state, steps = reference_layers.first_state(layer), ()
            for _ in range(source.randint(1, 7)):
                afters = reference_layers.steps(layer, state)
                if len(afters) > 200:
                    break
                bad = [step for step in afters if afters[step] is None]
                step = source.choice(bad if bad and source.randrange(2) else sorted(afters))
                steps, state = steps + (step,), afters[step]
                found.append(self.holds(layer, steps))
                if state is None:
                    self.wrong(layer, steps + (step,), steps[:-1] + (("crash",),) + steps[-1:])
                    break
        self.assertGreater(found.count(True), 200)
        self.assertGreater(found.count(False), 500)


class ReplayTestCase(unittest.TestCase):
    def replayed(self, layer, steps, values):
        found = replay(layer, steps, values)
        self.assertEqual(repr(replay(layer, steps, values)), repr(found))
        self.assertEqual(repr(found), repr(reference_replay.replay(layer, steps, values)))
        for lower, history in zip(layer[1], found[1]):
            self.assertIsNotNone(find_run(lower, history))
        return found

    def shows(self, layer, steps, values, upper, *lowers):
        self.assertEqual(self.replayed(layer, steps, values), (upper, lowers))


class ReplayTest(ReplayTestCase):
    def test_example_of_the_interface(self):
        self.assertEqual(
            replay(BAD, (("done", "ping", (0,)),), ()),
            ((("done", "ping", (), "no", ()),), ((("done", "ping", (), "ok", ()),),)),
        )

    def test_no_steps(self):
        self.shows(BAD, (), (), (), ())
        self.shows(FIVE, (), (1, 2), (), (), (), (), (), ())

    def test_done(self):
        put, get = ("done", "put", (0, 0)), ("done", "get", (0,))
        self.shows(
            TWICE, (put, get), (7,), (("done", "put", (7,), "ok", ()), ("done", "get", (), "is", (7,))),
            (("done", "put", (7,), "ok", ()), ("done", "get", (), "is", (7,))), (("done", "put", (7,), "ok", ()),),
        )
        self.shows(TWICE, (get,), (), (("done", "get", (), "none", ()),), (("done", "get", (), "none", ()),), ())

    def test_done_without_candidates(self):
        self.shows(
            ASKEW, FOUND[3][1], (5,), (("done", "put", (5,), "ok", ()), ("done", "get", (), "none", ())),
            (("done", "get", (), "none", ()),), (("done", "put", (5,), "ok", ()),),
        )

    def test_unhandled_replies_of_done_and_recover(self):
        self.shows(
            DURABLE, FOUND[6][1], (5, 6), (("done", "put", (5,), "ok", ()),),
            (
                ("done", "put", (5,), "ok", ()), ("done", "sync", (), "ok", ()), ("done", "put", (6,), "ok", ()),
                ("done", "sync", (), "late", ()), ("done", "sync", (), "late", ()),
            ),
        )
        self.shows(ASKEW, FOUND[4][1], (), (CRASH,), (CRASH, ("done", "get", (), "none", ())), (CRASH,))

    def test_unhandled_replies_of_cut_and_recrash(self):
        # The last reply is "late", in a mode that a crash may keep, or leave with either value.
        steps = (("done", "put", (0, 0)), ("cut", "put", (0, 0, 0), (1,)), ("recover", (0,)), ("done", "get", (0,)))
        self.shows(
            DURABLE, steps, (5, 6),
            (("done", "put", (5,), "ok", ()), ("cut", "put", (6,)), ("done", "get", (), "is", (6,))),
            (
                ("done", "put", (5,), "ok", ()), ("done", "sync", (), "ok", ()), ("done", "put", (6,), "ok", ()),
                ("done", "sync", (), "late", ()), ("cut", "sync", ()), ("done", "sync", (), "ok", ()),
                ("done", "get", (), "is", (6,)),
            ),
        )
        self.shows(
            ASKEW, FOUND[5][1], (5,), (("cut", "put", (5,)),),
            (CRASH, ("cut", "get", ()), CRASH, ("done", "get", (), "none", ())),
            (("done", "put", (5,), "ok", ()), CRASH, CRASH, CRASH),
        )

    def test_cut_with_no_call_some_calls_and_all_calls(self):
        put = ("done", "put", (5,), "ok", ())
        up = (("cut", "put", (5,)),)
        self.shows(TWICE, (("cut", "put", (), (0, 0)),), (5,), up, (CRASH,), (CRASH,))
        self.shows(TWICE, (("cut", "put", (0,), (0, 0)),), (5,), up, (put, CRASH), (CRASH,))
        self.shows(TWICE, (("cut", "put", (0, 0), (0, 0)),), (5,), up, (put, CRASH), (put, CRASH))

    def test_crashes_in_a_row(self):
        steps = (
            ("done", "put", (0, 0)), ("crash", (0, 0)), ("recrash", (), (0, 0)), ("recrash", (0,), (0, 0)),
            ("recrash", (0, 0), (0, 0)), ("recover", (0, 0)), ("crash", (0, 0)),
        )
        put, get = ("done", "put", (5,), "ok", ()), ("done", "get", (), "is", (5,))
        self.shows(
            TWICE, steps, (5,), (put, CRASH, CRASH),
            (put, CRASH, CRASH, get, CRASH, get, CRASH, get, CRASH), (put, CRASH, CRASH, CRASH, put, CRASH, put, CRASH),
        )

    def test_the_choice_of_a_crash(self):
        same = same_layer(CACHE)
        put, sync = ("done", "put", (0,)), ("done", "sync", (0,))
        for choice, value in ((0, 5), (1, 6), (2, 6)):
            steps = (put, sync, put, ("crash", (choice,)), ("recover", ()), ("done", "get", (0,)))
            upper, (lower,) = self.replayed(same, steps, (5, 6))
            self.assertEqual(upper, lower)
            self.assertEqual(upper[3:], (CRASH, ("done", "get", (), "is", (value,))))

    def test_values_that_are_equal(self):
        steps = (("done", "put", (0, 0)), ("cut", "put", (0,), (0, 0)), ("recover", (0, 0)), ("done", "get", (0,)))
        for values in ((5, 6), (6, 5), (5, 5), (0, 10 ** 9)):
            upper, lowers = self.replayed(TWICE, steps, values)
            self.assertEqual(upper[0], ("done", "put", values[:1], "ok", ()))
            self.assertEqual(upper[1:], (("cut", "put", values[1:]), ("done", "get", (), "is", values[1:])))
            self.assertEqual(lowers[0][1], ("done", "put", values[1:], "ok", ()))
        # The outcome is that of the step, also if another one comes to the same.
        steps = (("done", "set", (0, 1)), ("done", "swap", (1,)))
        for values in ((5, 6), (6, 6)):
            upper, _ = self.replayed(MOVES, steps, values)
            self.assertEqual(upper, (("done", "set", values, "ok", ()), ("done", "swap", (), "yes", values[1:])))

    def test_values_that_are_left_over(self):
        steps = (("done", "put", (0, 0)), ("crash", (0, 0)))
        self.assertEqual(replay(TWICE, steps, (5,)), replay(TWICE, steps, (5, 6, 7)))
        self.assertEqual(replay(TWICE, (), ()), replay(TWICE, (), (5, 6, 7)))

    def test_arguments_are_taken_although_a_reply_is_unhandled(self):
        layer = (
            CELL, (CELL,),
            ((("return", "none", ()),), (("call", 0, "put", (0,), ()), ("return", "ok", ()))), (UP,),
        )
        self.assertIs(is_layer(layer), True)
        steps = (("cut", "put", (0,), (0,)), ("recover", ()), ("cut", "put", (), (0,)), ("recover", ()),
            ("done", "put", (0,)))
        self.shows(
            layer, steps, (5, 6, 7), (("cut", "put", (5,)), ("cut", "put", (6,))),
            (("cut", "put", (5,)), CRASH, ("done", "put", (7,), "ok", ())),
        )

    def test_two_arguments(self):
        steps = (("done", "set", (0, 0)), ("cut", "set", (), (2, 0)), ("recover", (0,)), ("done", "set", (0, 2)))
        upper, _ = self.replayed(MOVES, steps, (1, 2, 3, 4, 5, 6))
        self.assertEqual(upper, (
            ("done", "set", (1, 2), "ok", ()), ("cut", "set", (3, 4)), ("done", "set", (5, 6), "same", ()),
        ))

    def test_layers_without_operations(self):
        layer = same_layer(SILENT)
        self.shows(layer, (("crash", (0,)), ("recrash", (), (0,)), ("recover", ())), (), (CRASH,), (CRASH, CRASH))
        steps = (("crash", (0,) * 5), ("recover", (0,)), ("crash", (0,) * 5))
        self.shows(
            FIVE, steps, (), (CRASH, CRASH), *[(CRASH, CRASH)] * 3, (CRASH, ("done", "both", (), "none", ()), CRASH),
            (CRASH, CRASH),
        )

    def test_upper_histories_of_counterexamples_have_no_run(self):
        without_run = []
        for layer, steps in FOUND:
            upper, _ = self.replayed(layer, steps, tuple(range(100, 150)))
            without_run.append(find_run(layer[0], upper) is None)
        # Those of the other ones end ahead of an unhandled reply.
        self.assertEqual(without_run, [True, True, True, True, False, False, False, False, True])

    def test_random_walks(self):
        source = random.Random(71)
        bad = done = 0
        for layer in random_layers(70, 1500):
            state, steps = reference_layers.first_state(layer), ()
            while state is not None and len(steps) < 9:
                afters = reference_layers.steps(layer, state)
                if len(afters) > 200:
                    break
                choice = sorted(afters)
                step = source.choice([step for step in choice if step[0] != "crash"] or choice)
                steps, state = steps + (step,), afters[step]
            values = tuple(source.sample(range(1000), 18))
            upper, _ = self.replayed(layer, steps, values)
            self.replayed(layer, steps, tuple(value % 2 for value in values))
            if len(upper) < 6:
                runs = reference.runs(layer[0], upper)
                done += 1
                if state is not None:
                    self.assertTrue(runs)
                elif steps[-1][0] == "done" and self.ends_with_a_return(layer, steps):
                    self.assertFalse(runs)
                    bad += 1
        self.assertGreater(bad, 100)
        self.assertGreater(done, 500)

    def ends_with_a_return(self, layer, steps):
        """Return whether the last reply is handled, so that no candidate was left."""
        state = reference_layers.first_state(layer)
        for step in steps[:-1]:
            state = reference_layers.steps(layer, state)[step]
        _, op, path = steps[-1]
        new = len({symbol for _, symbols in state[1] for symbol in symbols})
        arguments = tuple(range(new, new + dict(layer[0][1])[op]))
        program = layer[2][[name for name, _ in layer[0][1]].index(op)]
        return reference_layers.execute(layer, program, arguments, state[1], path)[0] == "return"


class LimitsTest(CounterexampleTestCase):
    def setUp(self):
        self.started = time.monotonic()

    def tearDown(self):
        self.assertLess(time.monotonic() - self.started, 30)

    def test_forty_steps(self):
        steps = ((("done", "put", (0, 0)), ("cut", "put", (0,), (0, 0)), ("recrash", (), (0, 0)),
            ("recover", (0, 0))) * 10)
        values = tuple(range(100, 140))
        self.wrong(TWICE, steps)
        upper, lowers = replay(TWICE, steps, values)
        self.assertEqual((upper, lowers), reference_replay.replay(TWICE, steps, values))
        self.assertEqual(len(upper), 20)
        self.assertEqual([len(history) for history in lowers], [50, 40])
        self.assertEqual(upper[-2:], (("done", "put", (118,), "ok", ()), ("cut", "put", (119,))))
        layer = TWICE[:2] + ((TWICE[2][0][:2] + (("return", "no", ()),), TWICE[2][1]), TWICE[3])
        steps = (("crash", (0, 0)), ("recover", (0,))) * 19 + (("crash", (0, 0)), ("recover", (0,)),
            ("done", "get", (0,)))
        self.assertEqual(len(steps), 41)
        self.good(layer, steps, steps[2:])
        self.wrong(layer, steps[:-1], steps + steps[-1:])

    def test_many_steps(self):
        steps = (("crash", (0,)), ("recover", ())) * 2400
        self.assertIs(counterexample_holds(BAD, steps), False)
        self.assertIs(counterexample_holds(BAD, steps + (("done", "ping", (0,)),)), True)
        self.assertIs(counterexample_holds(BAD, steps[1:] + (("done", "ping", (0,)),)), False)
        upper, lowers = replay(BAD, steps + (("done", "ping", (0,)),), ())
        self.assertEqual((len(upper), len(lowers[0])), (2401, 2401))

    def test_long_paths(self):
        calls = tuple(("call", 0, "ping", (), (("ok", (), at + 1),)) for at in range(300))
        layer = (PING, (PING,), (calls + (("return", "no", ()),),), calls + (UP,))
        path = (0,) * 300
        self.assertIs(counterexample_holds(layer, (("done", "ping", path),)), True)
        self.assertIs(counterexample_holds(layer, (("done", "ping", path[1:]),)), False)
        steps = (("cut", "ping", path, (0,)), ("recrash", path[4:], (0,)), ("recover", path), ("done", "ping", path))
        self.assertIs(counterexample_holds(layer, steps), True)
        upper, (lower,) = replay(layer, steps, ())
        self.assertEqual(upper, (("cut", "ping", ()), ("done", "ping", (), "no", ())))
        self.assertEqual(len(lower), 4 * 300 - 4 + 2)

    def test_large_values(self):
        many = (0,) * 29990
        for thing in (many, "a" * 8000, [()] * 29990, {at: () for at in range(14000)}, (("done", "ping", many),),
                      (("crash", many),), (many, many), ((),) * 29990, (("done", "a" * 8000, ()),),
                      (("crash", (10 ** 39,)),), (("cut", "ping", many[:10], (0,)),), (("crash", (0,)),) * 7000):
            self.assertIs(counterexample_holds(BAD, thing), False)
