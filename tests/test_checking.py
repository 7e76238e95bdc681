import inspect
import time
import unittest

from eachheight import checking
from eachheight.certificates import certificate_holds
from eachheight.checking import check_layer
from eachheight.combining import compose_layers, product_layer
from eachheight.counterexamples import counterexample_holds, replay
from eachheight.errors import TooManyStates
from eachheight.layers import is_layer
from eachheight.limits import MAX_STATES
from eachheight.runs import find_run
from eachheight.states import is_state
from eachheight.steps import steps_from
from tests import reference_layers, reference_replay
from tests.layer_samples import (
    ASKEW, BAD, CERTIFIED, DURABLE, FIVE, GOOD, MOVES, TWICE, random_layers, renamed, same_layer, wheel_layer,
)
from tests.samples import CACHE, CELL, PAIR, PING, SILENT

UP = ("up",)
EMPTY = ((0, ()),)


class CheckTestCase(unittest.TestCase):
    def checked(self, layer, *maximum):
        """Return what is found; whatever it is, the checkers of both kinds agree with it."""
        named = {"max_states": maximum[0]} if maximum else {}
        found = check_layer(layer, **named)
        self.assertEqual(repr(check_layer(layer, **named)), repr(found))
        self.assertIs(type(found), tuple)
        kind, thing = found
        self.assertIn(kind, ("valid", "invalid"))
        self.assertIs(certificate_holds(layer, thing), kind == "valid")
        self.assertIs(counterexample_holds(layer, thing), kind == "invalid")
        self.assertEqual(reference_layers.certificate(layer, thing), kind == "valid")
        self.assertEqual(reference_replay.counterexample(layer, thing), kind == "invalid")
        return kind

    def too_many(self, layer, maximum):
        with self.assertRaises(TooManyStates) as caught:
            check_layer(layer, max_states=maximum)
        self.assertEqual(caught.exception.max_states, maximum)


class CheckTest(CheckTestCase):
    def test_examples_of_the_interface(self):
        self.assertEqual([check_layer(GOOD)[0], check_layer(BAD)[0]], ["valid", "invalid"])

    def test_parameters(self):
        self.assertEqual(check_layer(layer=GOOD, max_states=2), check_layer(GOOD))
        parameters = inspect.signature(check_layer).parameters
        self.assertEqual(list(parameters), ["layer", "max_states"])
        self.assertEqual(parameters["max_states"].default, MAX_STATES)
        with self.assertRaises(TypeError):
            check_layer(GOOD, 300)

    def test_defined_in_the_file(self):
        self.assertEqual(checking.check_layer.__module__, "eachheight.checking")

    def test_good_ones(self):
        for layer in CERTIFIED:
            self.assertEqual(self.checked(layer), "valid")

    def test_bad_ones(self):
        for layer in (BAD, ASKEW, DURABLE, MOVES):
            self.assertEqual(self.checked(layer), "invalid")

    def test_the_only_certificate_and_the_only_short_counterexample(self):
        self.assertEqual(check_layer(GOOD), ("valid", (("down", EMPTY, EMPTY), ("up", EMPTY, EMPTY))))
        layer = (SILENT, (PING,), (), (("call", 0, "ping", (), ()), UP))
        self.assertEqual(self.checked(layer), "invalid")
        layer = (PING, (PING,), ((("return", "ok", ()),),), (UP,))
        self.assertEqual(check_layer(layer), check_layer(GOOD))

    def test_what_a_counterexample_shows(self):
        # By each of its steps its lower histories have runs, and its upper history has none.
        for layer in (BAD, ASKEW, MOVES):
            _, steps = check_layer(layer)
            upper, lowers = replay(layer, steps, tuple(range(80)))
            for lower, history in zip(layer[1], lowers):
                self.assertIsNotNone(find_run(lower, history))
            self.assertIsNone(find_run(layer[0], upper))

    def test_without_operations(self):
        for layer in (same_layer(SILENT), FIVE, (SILENT, (SILENT, SILENT), (), (("jump", 1), UP))):
            self.assertIs(is_layer(layer), True)
            self.assertEqual(self.checked(layer), "valid")

    def test_a_crash_that_the_upper_spec_does_not_allow(self):
        once = ((0, 1), CELL[1], CELL[2], (((0, ()),), ((0, ()),)))
        self.assertEqual(self.checked((CELL, (once,)) + same_layer(CELL)[2:]), "invalid")
        self.assertEqual(self.checked((once, (once,)) + same_layer(CELL)[2:]), "valid")
        self.assertEqual(self.checked((once, (CELL,)) + same_layer(CELL)[2:]), "invalid")

    def test_a_fault_only_after_a_crash_during_recovery(self):
        # Recovery writes the second cell, then the first one; only if it is cut between, the next one fails.
        def recovery(*last):
            return (
                ("call", 0, "get", (), (("is", (5,), 1), ("none", (), 6))),
                ("call", 1, "get", (), (("is", (6,), 2), ("none", (), 5))),
                ("call", 2, "get", (), last),
                ("jump", 6), ("jump", 6),
                ("call", 1, "put", (5,), (("ok", (), 6),)),
                UP,
            )

        cells = (CELL, CELL, CELL)
        put = (("call", 0, "put", (0,), (("ok", (), 1),)), ("return", "ok", ()))
        first = ((("call", 0, "get", (), (("is", (0,), 1), ("none", (), 2))), ("return", "is", (0,)),
                  ("return", "none", ())), put)
        good = (CELL, cells, first, recovery(("is", (7,), 6), ("none", (), 6)))
        bad = (CELL, cells, first, recovery(("is", (7,), 6)))
        self.assertEqual([is_layer(good), is_layer(bad)], [True, True])
        self.assertEqual([self.checked(good), self.checked(bad)], ["valid", "invalid"])
        kinds = [step[0] for step in check_layer(bad)[1]]
        self.assertEqual(kinds[-1], "recover")
        self.assertGreater(kinds.count("recrash") + kinds.count("recover"), 1)

    def test_random_layers(self):
        found = []
        for layer in random_layers(80, 900):
            states, bad = reference_layers.reachable(layer, 40)
            if len(states) <= 40:
                found.append(self.checked(layer))
                self.assertEqual(found[-1], "invalid" if bad else "valid")
        self.assertGreater(found.count("valid"), 150)
        self.assertGreater(found.count("invalid"), 150)

    def test_only_one_of_the_two(self):
        # All steps up to two are tried: a layer with a certificate has no counterexample among them.
        for layer in random_layers(81, 60):
            states, _ = reference_layers.reachable(layer, 20)
            first = reference_layers.steps(layer, reference_layers.first_state(layer))
            if len(states) > 20 or len(first) > 12:
                continue
            kind = self.checked(layer)
            for step in first:
                seconds = [] if first[step] is None else steps_from(layer, first[step])
                for steps in [(step,)] + [(step, second) for second in seconds]:
                    if counterexample_holds(layer, steps):
                        self.assertEqual(kind, "invalid")


class MaximumTest(CheckTestCase):
    def test_all_maximums(self):
        for layer in CERTIFIED + tuple(random_layers(82, 150)):
            states, bad = reference_layers.reachable(layer, 60)
            if len(states) > 60:
                continue
            expected = "invalid" if bad else "valid"
            # With as many as can be reached, or more, there is always a result.
            for maximum in (len(states), len(states) + 1, 299, 300):
                self.assertEqual(self.checked(layer, max(1, min(300, maximum))), expected)
            for maximum in {1, len(states) // 2, len(states) - 1} - {0}:
                try:
                    self.assertEqual(self.checked(layer, maximum), expected)
                except TooManyStates as e:
                    self.assertEqual(e.max_states, maximum)

    def test_left_out(self):
        self.assertEqual(check_layer(TWICE), check_layer(TWICE, max_states=300))

    def test_one(self):
        # A crash always leads to a second state.
        self.too_many(GOOD, 1)
        self.assertEqual(self.checked(GOOD, 2), "valid")
        self.assertEqual(check_layer(BAD, max_states=2)[0], "invalid")

    def test_states_that_do_not_cover_each_other(self):
        layer = wheel_layer(3, 4)
        self.assertEqual(self.checked(layer, 24), "valid")
        self.assertEqual(self.checked(layer, 25), "valid")
        self.assertEqual(len(check_layer(layer, max_states=24)[1]), 24)
        for maximum in (1, 2, 12, 23):
            self.too_many(layer, maximum)

    def test_states_with_candidates_that_others_have_too(self):
        # Far more states can be reached than the certificate needs.
        layer = product_layer((renamed(CELL, "a"), renamed(CELL, "b"), renamed(CELL, "c")))
        self.assertGreater(len(reference_layers.reachable(layer, 300)[0]), 300)
        try:
            self.assertEqual(self.checked(layer), "valid")
        except TooManyStates as e:
            self.assertEqual(e.max_states, 300)


class LimitsTest(CheckTestCase):
    def setUp(self):
        self.started = time.monotonic()

    def tearDown(self):
        self.assertLess(time.monotonic() - self.started, 60)

    def test_three_hundred_states(self):
        layer = wheel_layer(6, 5, 5)
        self.assertEqual(self.checked(layer), "valid")
        self.assertEqual(len(check_layer(layer)[1]), 300)
        self.assertEqual(self.checked(layer, 300), "valid")
        self.too_many(layer, 299)
        self.too_many(wheel_layer(6, 5, 5, 2), 300)

    def test_a_long_counterexample(self):
        # The last of thirty-six modes has another reply; nothing leads there but one turn after another.
        lowers = wheel_layer(6, 6)[1]
        low = lowers[0]
        cases = low[2][:5] + (((("end", (), 0, ()),),),)
        low = low[:2] + (cases,) + low[3:]
        program = (
            ("call", 0, "turn", (), (("end", (), 1), ("ok", (), 2))),
            ("call", 1, "turn", (), (("ok", (), 2),)),
            ("return", "ok", ()),
        )
        high = lowers[1]
        high = high[:2] + (high[2][:5] + (((("end", (), 0, ()),),),),) + high[3:]
        layer = (PING, (low, high), (program,), (UP,))
        self.assertIs(is_layer(layer), True)
        self.assertEqual(self.checked(layer), "invalid")
        steps = check_layer(layer)[1]
        self.assertGreaterEqual(len(steps), 36)
        program = program[:1] + (("call", 1, "turn", (), (("end", (), 2), ("ok", (), 2))),) + program[2:]
        good = (PING, (low, high), (program,), (UP,))
        self.assertEqual(self.checked(good), "valid")

    def test_sixty_candidates_and_four_hundred_steps(self):
        # An upper spec that keeps any of many orders, on lower specs with several crash results each.
        results = ((1, (0, 0, 0)), (1, (0, 1, 2)), (1, (1, 1, 1)), (1, (2, 2, 2)))
        start, turn = (("ok", (), 1, (0, 0, 0)),), (("ok", (), 1, (3, 0, 1)),)
        lower = ((0, 3), (("put", 1),), ((start,), (turn,)), (((0, ()),), results))
        upper_crashes = (((0, ()),), ((0, ()), (1, (0, 0)), (1, (0, 1)), (1, (1, 1))))
        some = (("ok", (), 0, ()), ("ok", (), 1, (0, 0)))
        stay = (("ok", (), 1, (0, 2)), ("ok", (), 1, (1, 0)), ("ok", (), 1, (2, 1)))
        upper = ((0, 2), tuple((name, 1) for name in "abcde"), ((some,) * 5, (stay,) * 5), upper_crashes)
        programs = tuple(
            tuple(("call", at % 2, "put", (0,), (("ok", (), at + 1),)) for at in range(count)) + (("return", "ok", ()),)
            for count in (15, 1, 1, 1, 0)
        )
        layer = (upper, (lower, lower), programs, (UP,))
        self.assertIs(is_layer(layer), True)
        kind, thing = check_layer(layer)
        self.assertEqual(kind, "valid")
        self.assertIs(certificate_holds(layer, thing), True)
        self.assertGreater(max(len(state[2]) for state in thing), 30)
        self.assertGreater(max(len(steps_from(layer, state)) for state in thing), 380)

    def test_many_crash_results(self):
        # A crash leads each lower spec to any of its modes, so all combinations come from one crash.
        entry = tuple((mode, ()) for mode in range(4))
        lower = ((0,) * 4, (), ((),) * 4, (entry,) * 4)
        layer = (SILENT, (lower,) * 3, (), (UP,))
        self.assertIs(is_layer(layer), True)
        for maximum in (128, 129, 300):
            self.assertEqual(self.checked(layer, maximum), "valid")
        for maximum in (1, 63, 64, 65, 127):
            self.too_many(layer, maximum)
        found = check_layer(layer)[1]
        self.assertEqual(len(found), 128)
        for at in range(0, 128, 9):
            self.assertIs(certificate_holds(layer, found[:at] + found[at + 1:]), False)

    def test_far_too_many_crash_results(self):
        # A spec that keeps two values, of which a crash may keep either one, or lose both.
        pair = (
            (0, 2), (("get", 0), ("put", 1)),
            (
                ((("none", (), 0, ()),), (("ok", (), 1, (0, 0)),)),
                ((("is", (0,), 1, (0, 1)), ("is", (1,), 1, (0, 1))), (("ok", (), 1, (1, 2)),)),
            ),
            (((0, ()),), ((0, ()), (1, (0, 0)), (1, (0, 1)), (1, (1, 1)))),
        )
        put = tuple(("call", k, "put", (0,), (("ok", (), k + 1),)) for k in range(5)) + (("return", "ok", ()),)
        layer = (pair, (pair,) * 5, (TWICE[2][0], put), (UP,))
        self.assertIs(is_layer(layer), True)
        whole = compose_layers(layer, (layer,) * 5)
        self.too_many(whole, 300)
        first = reference_layers.first_state(whole)
        full = ("up", tuple((1, (k, k + 1)) for k in range(0, 50, 2)), ((1, (0, 1)),))
        self.assertIs(is_state(whole, full), True)
        self.assertIs(certificate_holds(whole, (("down",) + first[1:], first, full)), False)

    def test_choices_that_come_to_the_same(self):
        # Each of many lower specs keeps one of its two values, and whatever is left looks alike.
        either = ((0, 2, 1), (), ((), (), ()), (((0, ()),), ((2, (0,)), (2, (1,))), ((2, (0,)),)))
        layer = (SILENT, (either,) * 25, (), (UP,))
        self.assertIs(is_layer(layer), True)
        self.assertEqual(self.checked(layer), "valid")
        full = tuple((1, (2 * k, 2 * k + 1)) for k in range(25))
        left = tuple((2, (k,)) for k in range(25))
        states = tuple(
            (phase, configs, EMPTY) for phase in ("down", "up") for configs in (EMPTY * 25, full, left)
        )
        self.assertIs(certificate_holds(layer, states), True)
        self.assertIs(certificate_holds(layer, states[:1] + states[2:4] + states[5:]), True)
        self.assertIs(certificate_holds(layer, states[:2] + states[3:]), False)
        self.assertIs(certificate_holds(layer, states[:5]), False)

    def test_more_ways_to_crash_than_states(self):
        # What a crash leaves differs only in what the candidates have lost, and one candidate loses nothing.
        either = ((0, 2, 1), (), ((), (), ()), (((0, ()),), ((2, (0,)), (2, (1,))), ((2, (0,)),)))
        upper = ((0, 3), (), ((), ()), (((0, ()),), ((1, (0, 1, 2)),)))
        layer = (upper, (either,) * 3, (), (UP,))
        self.assertIs(is_layer(layer), True)
        full = ("up", ((1, (0, 1)), (1, (2, 3)), (1, (4, 5))), ((0, ()), (1, (0, 2, 4))))
        left = tuple((2, (k,)) for k in range(3))
        states = (
            ("down", EMPTY * 3, EMPTY), ("down", left, EMPTY), ("up", EMPTY * 3, EMPTY), full, ("up", left, EMPTY),
        )
        self.assertIs(reference_layers.certificate(layer, states), True)
        self.assertIs(certificate_holds(layer, states), True)
        self.assertIs(certificate_holds(layer, states[:1] + states[2:]), False)

    def test_large_specs(self):
        # Three values, four crash results, three outcomes: many states, found or given up in time.
        for spec in (CACHE, PAIR):
            layer = product_layer((renamed(spec, "a"), renamed(spec, "b")))
            try:
                kind, thing = check_layer(layer)
            except TooManyStates as e:
                self.assertEqual(e.max_states, 300)
            else:
                self.assertEqual(kind, "valid")
                self.assertIs(certificate_holds(layer, thing), True)
