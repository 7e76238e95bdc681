import itertools
import random
import time
import unittest

from eachheight import certificates
from eachheight.certificates import certificate_holds
from eachheight.layers import is_layer
from eachheight.states import initial_state, is_state
from eachheight.steps import steps_from
from tests import reference_layers
from tests.layer_samples import (
    ASKEW, BAD, CERTIFIED, DURABLE, GOOD, LAYERS, MOVES, TWICE, random_layers, random_state, same_layer,
    wheel_layer,
)
from tests.samples import CACHE, CELL, ODD_VALUES, PING, SILENT, all_swaps, nested

UP = ("up",)
EMPTY = ((0, ()),)
SAME_CELL = same_layer(CELL)
NEVER, LOST, HELD = (0, ()), (1, (-1,)), (1, (0,))
# All states of SAME_CELL that can be reached.
CELL_STATES = tuple(
    (phase, configs, candidates) for phase in ("down", "up") for configs, candidates in (
        (EMPTY, (NEVER,)), (EMPTY, (NEVER, LOST)),
        ((HELD,), (NEVER, LOST, HELD)), ((HELD,), (NEVER, HELD)), ((HELD,), (LOST, HELD)), ((HELD,), (HELD,)),
    )
)
# Only those with the fewest candidates: they cover the other ones.
CELL_COVER = (
    ("down", EMPTY, EMPTY), ("down", ((1, (0,)),), ((1, (0,)),)), ("up", EMPTY, EMPTY),
    ("up", ((1, (0,)),), ((1, (0,)),)),
)


class CertificateTestCase(unittest.TestCase):
    def holds(self, layer, thing):
        found = certificate_holds(layer, thing)
        self.assertIs(type(found), bool)
        self.assertIs(certificate_holds(layer, thing), found)
        self.assertEqual(found, reference_layers.certificate(layer, thing), thing)
        return found

    def good(self, layer, *things):
        for thing in things:
            self.assertTrue(self.holds(layer, thing), thing)

    def wrong(self, layer, *things):
        for thing in things:
            self.assertFalse(self.holds(layer, thing), thing)


class CertificateTest(CertificateTestCase):
    def test_example_of_the_interface(self):
        self.assertIs(certificate_holds(GOOD, (("down", EMPTY, EMPTY), ("up", EMPTY, EMPTY))), True)

    def test_parameters_have_their_names(self):
        self.assertIs(certificate_holds(layer=SAME_CELL, thing=CELL_COVER), True)

    def test_defined_in_the_file(self):
        self.assertEqual(certificates.certificate_holds.__module__, "eachheight.certificates")

    def test_reachable_states(self):
        for layer in CERTIFIED:
            found, bad = reference_layers.reachable(layer)
            self.assertFalse(bad)
            self.good(layer, found)
        self.assertEqual(reference_layers.reachable(SAME_CELL)[0], CELL_STATES)

    def test_bad_layers_have_none(self):
        for layer in (BAD, ASKEW, DURABLE, MOVES):
            found, bad = reference_layers.reachable(layer)
            self.assertTrue(bad)
            self.wrong(layer, found)
            for thing in (found[:at] + found[at + 1:] for at in range(len(found))):
                self.wrong(layer, thing)

    def test_the_empty_one(self):
        for layer in LAYERS:
            self.wrong(layer, ())

    def test_other_values(self):
        for layer in (GOOD, BAD, SAME_CELL):
            self.wrong(layer, *ODD_VALUES)
            self.wrong(layer, *[nested(depth) for depth in range(30)])
            self.wrong(layer, list(CELL_COVER), dict(enumerate(CELL_COVER)), (CELL_COVER,), initial_state(layer))
            self.wrong(layer, *[CELL_COVER + (thing,) for thing in ODD_VALUES])
            self.wrong(layer, *[(thing,) + CELL_COVER for thing in ODD_VALUES])

    def test_each_set_of_states(self):
        found = []
        for count in range(len(CELL_STATES) + 1):
            for thing in itertools.combinations(CELL_STATES, count):
                found.append(self.holds(SAME_CELL, thing))
        self.assertGreater(found.count(True), 5)
        self.assertGreater(found.count(False), 500)

    def test_a_state_removed(self):
        self.good(SAME_CELL, CELL_STATES, CELL_COVER)
        for at in range(4):
            self.wrong(SAME_CELL, CELL_COVER[:at] + CELL_COVER[at + 1:])
        # The other ones are covered by these four.
        for state in CELL_STATES:
            fewer = tuple(other for other in CELL_STATES if other != state)
            self.assertEqual(self.holds(SAME_CELL, fewer), state not in CELL_COVER)

    def test_without_the_initial_state(self):
        # Closed under steps, but it begins elsewhere.
        self.wrong(SAME_CELL, (CELL_COVER[1], CELL_COVER[3]))
        self.wrong(GOOD, (("down", EMPTY, EMPTY),), (("up", EMPTY, EMPTY),))
        # A state with the same configs and fewer candidates is not the initial state: there is none.
        with_others = (("down", EMPTY, EMPTY), ("up", EMPTY, ((0, ()), (1, (-1,)))))
        self.wrong(SAME_CELL, with_others + CELL_COVER[1:2] + CELL_COVER[3:])

    def test_out_of_order_and_twice(self):
        for states in (CELL_COVER, CELL_STATES):
            self.wrong(SAME_CELL, states[::-1], states[1:] + states[:1], states + states[-1:], states[:1] + states)
            self.wrong(SAME_CELL, states[:1] + states[2:3] + states[1:2] + states[3:])
            for at in range(len(states)):
                self.wrong(SAME_CELL, states[:at] + states[at:at + 1] + states[at:])

    def test_another_phase(self):
        for at, (phase, configs, candidates) in enumerate(CELL_COVER):
            other = ("up" if phase == "down" else "down", configs, candidates)
            self.wrong(SAME_CELL, tuple(sorted(set(CELL_COVER[:at] + (other,) + CELL_COVER[at + 1:]))))

    def test_other_candidates(self):
        choices = ((0, ()), (1, (-1,)), (1, (0,)))
        sets = [row for count in (1, 2, 3) for row in itertools.combinations(choices, count)]
        found = []
        for at, (phase, configs, _) in enumerate(CELL_COVER):
            for candidates in sets:
                things = set(CELL_COVER[:at] + ((phase, configs, candidates),) + CELL_COVER[at + 1:])
                found.append(self.holds(SAME_CELL, tuple(sorted(things))))
        self.assertEqual(found.count(True), 4)

    def test_fewer_candidates_cover_more(self):
        # More candidates than the state after a step has do not cover it, nor do as many other ones.
        self.wrong(SAME_CELL, (
            ("down", EMPTY, EMPTY), ("down", ((1, (0,)),), ((1, (0,)),)), ("up", EMPTY, EMPTY),
            ("up", (HELD,), (LOST, HELD)),
        ))
        self.wrong(SAME_CELL, (
            ("down", EMPTY, EMPTY), ("down", ((1, (0,)),), ((1, (0,)),)), ("up", EMPTY, EMPTY),
            ("up", ((1, (0,)),), ((1, (-1,)),)),
        ))

    def test_several_states_with_the_same_configs(self):
        # The one that covers the others stands neither first nor last, or is not there.
        low, high = ("up", (HELD,), (NEVER, HELD)), ("up", (HELD,), (LOST, HELD))
        for some in ((), (low,), (high,), (low, high)):
            self.good(SAME_CELL, tuple(sorted(CELL_COVER + some)))
            self.assertEqual(self.holds(SAME_CELL, tuple(sorted(CELL_COVER[:3] + some))), False)

    def test_states_that_cannot_be_reached(self):
        # A good one, and its steps lead to states of the certificate or back to it.
        more = ("up", ((1, (0,)),), ((0, ()), (1, (0,))))
        self.good(SAME_CELL, tuple(sorted(CELL_COVER + (more,))))
        # Ones from which a step is bad.
        lost = ("up", ((1, (0,)),), ((1, (-1,)),))
        empty = ("up", ((1, (0,)),), EMPTY)
        for state in (lost, empty, ("down",) + lost[1:], ("down",) + empty[1:]):
            self.assertIs(is_state(SAME_CELL, state), True)
            self.wrong(SAME_CELL, tuple(sorted(CELL_COVER + (state,))), tuple(sorted(CELL_STATES + (state,))))
        # One that leads to a state that is not covered.
        two = same_layer(CACHE)
        states = reference_layers.reachable(two)[0]
        self.good(two, states)
        found = []
        source = random.Random(41)
        for _ in range(60):
            state = random_state(source, two)
            if state not in states:
                found.append(self.holds(two, tuple(sorted(states + (state,)))))
        self.assertGreater(found.count(True), 5)
        self.assertGreater(found.count(False), 5)

    def test_down_states_are_needed_although_nothing_crashes_to_them(self):
        layer = (SILENT, (PING,), (), (("call", 0, "ping", (), ()), UP))
        # Recovery is bad here, and a crash leads to it from the initial state.
        self.wrong(layer, (("down", EMPTY, EMPTY), ("up", EMPTY, EMPTY)), (("up", EMPTY, EMPTY),))

    def test_unhandled_replies(self):
        layer = (PING, (PING,), ((("call", 0, "ping", (), ()), ("return", "ok", ())),), (UP,))
        self.wrong(layer, (("down", EMPTY, EMPTY), ("up", EMPTY, EMPTY)))
        layer = (SILENT, (CELL,), (), (("call", 0, "get", (), (("none", (), 1),)), UP))
        states = (("down", EMPTY, EMPTY), ("up", EMPTY, EMPTY))
        self.good(layer, states)
        self.wrong(layer, states[:1] + (("down", ((1, (0,)),), EMPTY),) + states[1:])
        # Only recovery is bad, and nothing but a crash of this state leads there.
        self.wrong(layer, states + (("up", ((1, (0,)),), EMPTY),))

    def test_a_bad_step_that_is_not_from_the_initial_state(self):
        # "sync" may say "late" in mode 2 only, which the second "put" reaches.
        put, sync = ("call", 0, "put", (0,), (("ok", (), 1),)), ("call", 0, "sync", (), (("ok", (), 2),))
        program = (put, sync, ("return", "ok", ()))
        one = ((0,), (("put", 1),), (((("ok", (), 0, ()),),),), (((0, ()),),))
        layer = (one, (CACHE,), (program,), (UP,))
        found, bad = reference_layers.reachable(layer)
        self.assertTrue(bad)
        self.wrong(layer, found)

    def test_only_layers_with_the_right_replies(self):
        first, second = ("down", EMPTY, EMPTY), ("up", EMPTY, EMPTY)
        self.good(GOOD, (first, second))
        self.wrong(BAD, (first, second))
        layer = (SILENT, (PING,), (), (("call", 0, "ping", (), (("ok", (), 1),)), UP))
        self.good(layer, (first, second))


class MeetingPathsTest(CertificateTestCase):
    """Paths that come to the same instruction with the same configs, and with other variables."""

    # "pick" gives either of two values.
    PICKS = (("is", (0,), 1, (0, 1)), ("is", (1,), 1, (0, 1)))

    def spec(self, *picks):
        return (
            (0, 2), (("pick", 0), ("set", 2)),
            (((("no", (), 0, ()),), (("ok", (), 1, (0, 1)),)), (picks, (("ok", (), 1, (2, 3)),))),
            (((0, ()),), ((1, (0, 1)),)),
        )

    def test_a_result_that_is_returned(self):
        set_ = (("call", 0, "set", (0, 1), (("ok", (), 1),)), ("return", "ok", ()))
        ping = ("call", 1, "ping", (), (("ok", (), 2),))
        for middle in (
            (("return", "is", (5,)),), (ping, ("return", "is", (5,))),
            (ping, ("move", (6,), (5,)), ("return", "is", (6,))),
        ):
            call = ("call", 0, "pick", (), (("is", (5,), 1), ("no", (), len(middle) + 1)))
            program = (call,) + middle + (("return", "no", ()),)
            for picks, good in ((self.PICKS, True), (self.PICKS[:1], False), (self.PICKS[1:], False)):
                layer = (self.spec(*picks), (self.spec(*self.PICKS), PING), (program, set_), (UP,))
                self.assertIs(is_layer(layer), True)
                states, bad = reference_layers.reachable(layer)
                self.assertEqual(bad, not good)
                self.assertEqual(self.holds(layer, states), good)

    def test_a_result_that_is_passed_on(self):
        op = ((0,), (("copy", 0), ("set", 2)), (((("ok", (), 0, ()),),) * 2,), (((0, ()),),))
        set_ = (("call", 0, "set", (0, 1), (("ok", (), 1),)), ("return", "ok", ()))
        pick = ("call", 0, "pick", (), (("is", (5,), 1), ("no", (), 4)))
        ping = ("call", 2, "ping", (), (("ok", (), 2),))
        for put in (
            (("jump", 2), ("call", 1, "put", (5,), (("ok", (), 4),)), ("move", (), ())),
            (ping, ("move", (9,), (5,)), ("call", 1, "put", (9,), (("ok", (), 4),))),
            (ping, ("jump", 3), ("call", 1, "put", (5,), (("ok", (), 4),))),
        ):
            for first, second in (((pick,) + put + (("return", "ok", ()),), (UP,)),
                ((("return", "ok", ()),), (pick,) + put + (UP,))):
                layer = (op, (self.spec(*self.PICKS), CELL, PING), (first, set_), second)
                self.assertIs(is_layer(layer), True)
                states, bad = reference_layers.reachable(layer)
                self.assertFalse(bad)
                self.good(layer, states)
                pair, low, high = (1, (0, 1)), (1, (0,)), (1, (1,))
                for cell in (low, high):
                    missing = [state for state in states if state[1] == (pair, cell, (0, ()))]
                    self.assertEqual(len(missing), 2)
                    for state in missing:
                        self.wrong(layer, tuple(other for other in states if other != state))


class ChangedCertificatesTest(CertificateTestCase):
    LAYERS = (GOOD, SAME_CELL, TWICE, same_layer(SILENT))

    def test_other_kinds_at_any_depth(self):
        def other_kinds(part):
            if isinstance(part, tuple):
                return [list(part), dict(enumerate(part)), None, str(part), [part], (part,)]
            if isinstance(part, int):
                return [bool(part), str(part), None, (part,), [part], part + 10 ** 30, -3 - part]
            return [part.upper(), part + " ", (part,), [part], None, {part: part}]

        for layer in self.LAYERS:
            for thing in all_swaps(reference_layers.reachable(layer)[0], other_kinds):
                self.assertIs(certificate_holds(layer, thing), False, thing)

    def test_parts_removed_repeated_or_added_at_any_depth(self):
        extras = ((), 0, "up", None, (0, ()), (1, (0,)), ("up", EMPTY, EMPTY))

        def other_parts(part):
            if not isinstance(part, tuple):
                return []
            copies = [part[:at] + part[at + 1:] for at in range(len(part))]
            copies += [part[:at] + part[at:at + 1] + part[at:] for at in range(len(part))]
            copies += [part[::-1]]
            return copies + [part[:at] + (extra,) + part[at:] for extra in extras for at in (0, len(part))]

        for layer in self.LAYERS:
            for thing in all_swaps(reference_layers.reachable(layer)[0], other_parts):
                self.holds(layer, thing)

    def test_integers_replaced(self):
        def others(part):
            return [number for number in (-2, -1, 0, 1, 2) if number != part] if isinstance(part, int) else []

        for layer in self.LAYERS:
            for thing in all_swaps(reference_layers.reachable(layer)[0], others):
                self.holds(layer, thing)

    def test_random_layers(self):
        source = random.Random(51)
        found = []
        for layer in random_layers(50, 700):
            states, bad = reference_layers.reachable(layer, 30)
            if len(states) > 30:
                continue
            self.assertEqual(self.holds(layer, states), not bad)
            extra = random_state(source, layer)
            self.holds(layer, tuple(sorted(set(states + (extra,)))))
            # All that can be reached from there, too, whether that is good or not.
            more, more_bad = reference_layers.reachable(layer, 30, extra)
            if len(more) <= 30:
                found.append(self.holds(layer, tuple(sorted(set(states + more)))))
                self.assertEqual(found[-1], not bad and not more_bad)
            for _ in range(3):
                fewer = tuple(sorted(source.sample(states, source.randint(1, len(states)))))
                found.append(self.holds(layer, fewer))
        self.assertGreater(found.count(True), 200)
        self.assertGreater(found.count(False), 400)

    def test_arguments_stay(self):
        thing = (["up", [[0, []]]], {"a": [0]})
        self.assertFalse(certificate_holds(GOOD, thing))
        self.assertEqual(thing, (["up", [[0, []]]], {"a": [0]}))


class LimitsTest(unittest.TestCase):
    def setUp(self):
        self.started = time.monotonic()

    def tearDown(self):
        self.assertLess(time.monotonic() - self.started, 60)

    def test_six_hundred_states(self):
        layer = wheel_layer(6, 5, 5, 2)
        self.assertIs(is_layer(layer), True)
        rows = list(itertools.product(*map(range, (6, 5, 5, 2))))
        states = tuple(
            (phase, tuple((mode, ()) for mode in row), EMPTY) for phase in ("down", "up") for row in rows
        )
        self.assertEqual(len(states), 600)
        self.assertIs(certificate_holds(layer, states), True)
        for at in (0, 1, 299, 300, 301, 450, 599):
            self.assertIs(certificate_holds(layer, states[:at] + states[at + 1:]), False)
            self.assertIs(certificate_holds(layer, states[:at] + states[at:at + 1] + states[at:]), False)

    def test_many_candidates_and_steps(self):
        # Two lower specs with three values each, four crash results, programs of up to fifteen calls.
        results = ((1, (0, 0, 0)), (1, (0, 1, 2)), (1, (1, 1, 1)), (1, (2, 2, 2)))
        start, turn = (("ok", (), 1, (0, 0, 0)),), (("ok", (), 1, (1, 2, 0)),)
        lower = ((0, 3), (("put", 1), ("turn", 0)), ((start, (("no", (), 0, ()),)),
            ((("ok", (), 1, (3, 0, 1)),), turn)),
                 (((0, ()),), results))
        self.assertTrue(is_layer(same_layer(lower)))
        some = (("ok", (), 0, ()), ("ok", (), 1, (0, 0)))
        stay = (("ok", (), 1, (0, 1)), ("ok", (), 1, (2, 0)))
        upper = ((0, 2), tuple((name, 1) for name in "abcde"), ((some,) * 5, (stay,) * 5), (((0, ()),), ((0, ()),)))
        programs = tuple(
            tuple(("call", at % 2, "put", (0,), (("ok", (), at + 1),)) for at in range(count)) + (("return", "ok", ()),)
            for count in (15, 1, 1, 1, 0)
        )
        layer = (upper, (lower, lower), programs, (UP,))
        self.assertIs(is_layer(layer), True)
        afters = self.afters(layer)
        states = tuple(sorted(afters))
        self.assertEqual(len(states), 536)
        self.assertEqual(max(len(steps_from(layer, state)) for state in states), 389)
        self.assertEqual(max(len(state[2]) for state in states), 20)
        self.assertIs(certificate_holds(layer, states), True)
        found = []
        for state in states[::31] + (initial_state(layer),):
            fewer = tuple(other for other in states if other != state)
            missing = {after for other in fewer for after in afters[other] if after == state}
            covered = all(any(reference_layers.covers(other, after) for other in fewer) for after in missing)
            found.append(covered and state != initial_state(layer))
            self.assertIs(certificate_holds(layer, fewer), found[-1])
        self.assertGreater(found.count(True), 3)
        self.assertGreater(found.count(False), 3)

    def afters(self, layer):
        """Return a dict of all states that can be reached, with the states after all their steps."""
        found, waiting = {}, [initial_state(layer)]
        while waiting:
            state = waiting.pop()
            if state not in found:
                found[state] = set(reference_layers.steps(layer, state).values())
                waiting.extend(found[state])
        return found

    def test_many_paths_from_a_state_that_cannot_be_reached(self):
        # In mode 1, where nothing leads, each of fifteen calls has three outcomes.
        asks = (("a", (), 1, ()), ("b", (), 1, ()), ("c", (), 1, ()))
        spec = ((0, 0), (("ask", 0),), (((("a", (), 0, ()),),), (asks,)), (((0, ()),), ((1, ()),)))
        calls = tuple(
            ("call", 0, "ask", (), tuple((reply, (), at + 1) for reply in "abc")) for at in range(15)
        )
        upper = ((0,), (("op", 0),), (((("ok", (), 0, ()),),),), (((0, ()),),))
        layer = (upper, (spec,), (calls + (("return", "ok", ()),),), calls + (UP,))
        self.assertIs(is_layer(layer), True)
        states = (("down", EMPTY, EMPTY), ("down", ((1, ()),), EMPTY), ("up", EMPTY, EMPTY), ("up", ((1, ()),), EMPTY))
        self.assertIs(certificate_holds(layer, states), True)
        self.assertIs(certificate_holds(layer, states[:1] + states[2:]), False)
        self.assertIs(certificate_holds(layer, states[:3]), False)
        last = calls[14][:4] + (calls[14][4][:2],)
        layer = (upper, (spec,), (calls[:14] + (last, ("return", "ok", ())),), calls + (UP,))
        self.assertIs(certificate_holds(layer, states), False)
        self.assertIs(certificate_holds(layer, states[:1] + states[2:3]), True)

    def test_results_that_are_never_read_again(self):
        # As many variables as calls, each with one of three symbols, of which only the first one is returned.
        held = ((("no", (), 0, ()),),), (tuple(("is", (slot,), 1, (0, 1, 2)) for slot in range(3)),)
        spec = ((0, 3), (("get", 0),), held, (((0, ()),), ((1, (0, 1, 2)),)))
        calls = tuple(("call", 0, "get", (), (("is", (at,), at + 1), ("no", (), 16))) for at in range(15))
        program = calls + (("return", "is", (0,)), ("return", "no", ()))
        layer = (spec, (spec,), (program,), (UP,))
        self.assertIs(is_layer(layer), True)
        full = ((1, (0, 1, 2)),)
        states = (("down", EMPTY, EMPTY), ("down", full, full), ("up", EMPTY, EMPTY), ("up", full, full))
        self.assertIs(certificate_holds(layer, states), True)
        self.assertIs(certificate_holds(layer, states[:3] + (("up", full, ((1, (0, 1, 1)),)),)), False)
        wrong = calls + (("return", "no", ()),) * 2
        self.assertIs(certificate_holds((spec, (spec,), (wrong,), (UP,)), states), False)

    def test_large_values(self):
        ping = ("up", EMPTY, EMPTY)
        for thing in (((),) * 29990, "a" * 8000, (ping,) * 2400, [ping] * 2400, (ping, (ping,) * 2400),
            {at: ping for at in range(2400)},
                      (("up", EMPTY, ((0, ()),) * 9900),), (("up", ((0, (0,) * 29900),), EMPTY),)):
            self.assertIs(certificate_holds(GOOD, thing), False)

    def test_thousands_of_candidates(self):
        wide = ((0, 2), (), ((), ()), (((0, ()),), ((1, (0, 1)),)))
        held = ((0, 12), (), ((), ()), (((0, ()),), ((1, tuple(range(12))),)))
        layer = (wide, (held,) * 7, (), (UP,))
        configs = tuple((1, tuple(range(at, at + 12))) for at in range(0, 84, 12))
        candidates = tuple((1, (low, high)) for low in range(-1, 70) for high in range(-1, 84))
        first = initial_state(layer)
        states = (("down",) + first[1:], ("down", configs, candidates), first, ("up", configs, candidates))
        self.assertIs(certificate_holds(layer, states[:3:2]), True)
        self.assertIs(certificate_holds(layer, states), True)
        self.assertIs(certificate_holds(layer, states[:3]), False)
        fewer = states[:1] + (("down", configs, candidates[:-1]),) + states[2:]
        self.assertIs(certificate_holds(layer, fewer), False)
        equal = states[:1] + (("down", configs, candidates[:-1]), first, ("up", configs, candidates[:-1]))
        self.assertIs(certificate_holds(layer, equal), True)
