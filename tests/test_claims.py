import itertools
import random
import time
import unittest

from eachheight import claims
from eachheight.checking import check_layer
from eachheight.claims import claim_holds
from eachheight.combining import compose_layers, product_layer
from eachheight.errors import TooManyStates
from eachheight.histories import is_history
from eachheight.layers import is_layer
from eachheight.runs import find_run, possible_configs
from eachheight.specs import is_spec
from tests import reference, reference_layers, reference_replay
from tests.layer_samples import ASKEW, BAD, CERTIFIED, GOOD, TWICE, random_layers, random_spec, wheel_layer
from tests.samples import CACHE, CELL, ODD_VALUES, PAIR, PING, SILENT, SPECS, all_swaps, nested
from tests.tree_samples import CELLS

UP = ("up",)
CRASH = ("crash",)
EMPTY = ((0, ()),)
PUT, GET, CUT = ("done", "put", (7,), "ok", ()), ("done", "get", (), "is", (7,)), ("cut", "put", (8,))
HELD, LATER = (1, (7,)), (1, (8,))
# Claims that hold, of each kind.
CLAIMS = (
    ("possible", CELL, (), EMPTY), ("possible", CELL, (PUT, CUT), (HELD, LATER)), ("possible", CELL, (GET,), ()),
    ("possible", PAIR, (("done", "set", (3, 4), "ok", ()),), ((1, (3, 4)), (1, (4, 3)))),
    ("possible", PING, (CRASH,), EMPTY),
    ("run", CELL, (), ()), ("run", CELL, (CRASH,), EMPTY), ("run", CELL, (PUT, CUT, CRASH), (HELD, LATER, LATER)),
    ("run", CACHE, (PUT, CUT), (HELD, (2, (7, 8)))),
    ("valid", GOOD, (("down", EMPTY, EMPTY), ("up", EMPTY, EMPTY))), ("valid", TWICE, check_layer(TWICE)[1]),
    ("invalid", BAD, (("done", "ping", (0,)),)), ("invalid", ASKEW, (("crash", (0, 0)), ("recover", (0,)))),
)


def history(spec, thing):
    """Return whether a value is a history, by point 7 read from left to right."""
    arities = dict(spec[1])
    return type(thing) is tuple and all(
        type(part) is tuple and part[:1] and type(part[0]) is str and (
            part == CRASH or (
                len(part) == {"cut": 3, "done": 5}.get(part[0]) and type(part[1]) is str and part[1] in arities
                and values(part[2], (arities[part[1]],))
                and (part[0] == "cut" or (reference.name(part[3]) and values(part[4], (0, 1, 2))))
            )
        )
        for part in thing
    )


def values(thing, counts):
    return type(thing) is tuple and len(thing) in counts and all(
        reference.plain_int(part) and 0 <= part <= 10 ** 9 for part in thing
    )


def claim(thing):
    """Return whether a value is a claim that holds, by point 22."""
    if type(thing) is not tuple or not thing or type(thing[0]) is not str:
        return False
    if thing[0] in ("valid", "invalid"):
        if len(thing) != 3 or not reference_layers.layer(thing[1]):
            return False
        check = reference_layers.certificate if thing[0] == "valid" else reference_replay.counterexample
        return check(thing[1], thing[2])
    if thing[0] not in ("possible", "run") or len(thing) != 4:
        return False
    if not reference.spec(thing[1]) or not history(thing[1], thing[2]):
        return False
    found = {(0, ())}
    for event in thing[2]:
        found = {after for config in found for after in reference.after(thing[1], config, event)}
    if thing[0] == "possible":
        return repr(thing[3]) == repr(tuple(sorted(found)))
    return repr(thing[3]) in {repr(run) for run in reference.runs(thing[1], thing[2])}


class ClaimTestCase(unittest.TestCase):
    def holds(self, thing):
        found = claim_holds(thing)
        self.assertIs(type(found), bool)
        self.assertIs(claim_holds(thing), found)
        self.assertEqual(found, claim(thing), thing)
        return found

    def good(self, *things):
        for thing in things:
            self.assertTrue(self.holds(thing), thing)

    def wrong(self, *things):
        for thing in things:
            self.assertFalse(self.holds(thing), thing)


class ClaimTest(ClaimTestCase):
    def test_example_of_the_interface(self):
        self.assertIs(claim_holds(("run", CELL, (("crash",),), ((0, ()),))), True)

    def test_parameters_have_their_names(self):
        self.assertIs(claim_holds(thing=CLAIMS[0]), True)
        self.assertEqual(claims.claim_holds.__module__, "eachheight.claims")

    def test_claims_that_hold(self):
        self.good(*CLAIMS)

    def test_possible(self):
        for spec in SPECS:
            for length in (0, 1, 2):
                for events in itertools.product(reference.events(spec, (3, 4)), repeat=length):
                    found = possible_configs(spec, events)
                    self.assertIs(claim_holds(("possible", spec, events, found)), True)
                    self.assertIs(claim_holds(("possible", spec, events, found + ((0, (3,)),))), False)
                    if found:
                        self.assertIs(claim_holds(("possible", spec, events, found[1:])), False)
        # Without one, in another order, twice, of other kinds.
        self.wrong(
            ("possible", CELL, (PUT, CUT), (HELD,)), ("possible", CELL, (PUT, CUT), (LATER, HELD)),
            ("possible", CELL, (PUT, CUT), (HELD, HELD, LATER)), ("possible", CELL, (PUT, CUT), (HELD, LATER, LATER)),
            ("possible", CELL, (PUT, CUT), [HELD, LATER]), ("possible", CELL, (PUT, CUT), ([1, (7,)], LATER)),
            ("possible", CELL, (PUT, CUT), ((True, (7,)), LATER)), ("possible", CELL, (PUT, CUT), ()),
            ("possible", CELL, (), ()), ("possible", CELL, (), ((False, ()),)), ("possible", CELL, (GET,), EMPTY),
            ("possible", CELL, (GET,), None), ("possible", CELL, (GET,), []), ("possible", CELL, (GET,), False),
        )

    def test_run(self):
        self.good(("run", CELL, (PUT, CUT), (HELD, HELD)), ("run", CELL, (PUT, CUT), (HELD, LATER)))
        self.wrong(
            ("run", CELL, (PUT, CUT), (HELD,)), ("run", CELL, (PUT, CUT), ()),
            ("run", CELL, (PUT, CUT), (HELD, EMPTY[0])),
            ("run", CELL, (PUT, CUT), (LATER, LATER)), ("run", CELL, (PUT, CUT), (HELD, (True, (7,)))),
            ("run", CELL, (), None),
            ("run", CELL, (GET,), ()), ("run", CELL, (GET,), EMPTY), ("run", CELL, (GET,), (HELD,)),
            ("run", CELL, (GET,), None),
        )

    def test_valid_and_invalid(self):
        for layer in CERTIFIED:
            found = check_layer(layer)[1]
            self.good(("valid", layer, found))
            self.wrong(("invalid", layer, found), ("valid", layer, found[1:]), ("valid", layer, found[::-1]))
            self.wrong(("invalid", layer, ()), ("valid", layer, ()))
        for layer in (BAD, ASKEW):
            steps = check_layer(layer)[1]
            self.good(("invalid", layer, steps))
            self.wrong(("valid", layer, steps), ("invalid", layer, steps[:-1]), ("invalid", layer, steps + steps[-1:]))
            self.wrong(("valid", layer, reference_layers.reachable(layer)[0]))

    def test_claims_of_other_kinds(self):
        for thing in CLAIMS:
            for kind in ("possible", "run", "valid", "invalid"):
                if kind != thing[0]:
                    self.holds((kind,) + thing[1:])
            for kind in ("Run", "runs", "", "possibl", None, 0, True, (), ["run"], (thing[0],), [thing[0]]):
                self.wrong((kind,) + thing[1:])
            self.wrong(thing[:-1], thing + ((),), thing[1:], list(thing), (thing,), [thing], dict(enumerate(thing)),
                thing + thing)

    def test_parts_that_are_not_valid(self):
        # What is true but says something of no spec, history or layer does not hold.
        spec = ((False,),) + PING[1:]
        self.assertEqual(spec, PING)
        self.wrong(("run", spec, (), ()), ("possible", spec, (), EMPTY), ("run", CELL[:3], (), ()),
            ("run", GOOD, (), ()))
        self.wrong(("possible", list(CELL), (), EMPTY), ("run", CELL, [], ()), ("run", CELL, None, ()),
            ("run", CELL, {}, ()))
        self.wrong(("valid", (spec,) + GOOD[1:], CLAIMS[9][2]), ("valid", GOOD[:3], CLAIMS[9][2]),
            ("valid", PING, CLAIMS[9][2]))
        self.wrong(("invalid", (spec,) + BAD[1:], CLAIMS[11][2]), ("invalid", list(BAD), CLAIMS[11][2]),
            ("invalid", PING, ()))
        unset = GOOD[:3] + ((("move", (1,), (2,)), UP),)
        self.wrong(("valid", unset, CLAIMS[9][2]), ("invalid", unset, CLAIMS[9][2]))
        # Crashes that are not transitive.
        steps = ((0, 0, 0), (), ((), (), ()), (((0, ()), (1, ())), ((2, ()),), ((2, ()),)))
        self.assertIs(is_spec(steps), False)
        self.wrong(("run", steps, (CRASH,), EMPTY), ("possible", steps, (CRASH,), ((0, ()), (1, ()))))

    def test_other_values(self):
        self.wrong(*ODD_VALUES)
        self.wrong(*[nested(depth) for depth in range(30)])
        self.wrong(*SPECS, GOOD, BAD)
        for thing in CLAIMS:
            for at in range(len(thing)):
                for other in ODD_VALUES:
                    self.holds(thing[:at] + (other,) + thing[at + 1:])

    def test_other_kinds_at_any_depth(self):
        def other_kinds(part):
            if isinstance(part, tuple):
                return [list(part), dict(enumerate(part)), None, str(part), (part,)]
            if isinstance(part, int):
                return [bool(part), str(part), None, (part,), -2 - part]
            return [part.upper(), (part,), [part], None]

        for thing in CLAIMS:
            for other in all_swaps(thing, other_kinds):
                self.assertIs(claim_holds(other), False, other)

    def test_parts_removed_repeated_or_added_at_any_depth(self):
        extras = ((), 0, 1, 7, None, CRASH, PUT, HELD, "put", True)

        def other_parts(part):
            if isinstance(part, int):
                return [number for number in (0, 1, 2, 7, 8) if number != part]
            if isinstance(part, str):
                return ["done", "cut", "crash", "put", "get", "ok", "is", "up", "down", "ping"]
            copies = [part[:at] + part[at + 1:] for at in range(len(part))]
            copies += [part[:at] + part[at:at + 1] + part[at:] for at in range(len(part))]
            copies += [part[::-1]]
            return copies + [part[:at] + (extra,) + part[at:] for extra in extras for at in (0, len(part))]

        found = []
        for thing in CLAIMS:
            for other in all_swaps(thing, other_parts):
                found.append(self.holds(other))
        self.assertGreater(found.count(True), 50)
        self.assertGreater(found.count(False), 5000)

    def test_random_claims(self):
        source = random.Random(140)
        found = []
        for layer in random_layers(141, 500):
            try:
                kind, thing = check_layer(layer, max_states=30)
            except TooManyStates:
                continue
            self.good((kind, layer, thing))
            if thing:
                at = source.randrange(len(thing))
                found.append(self.holds((kind, layer, thing[:at] + thing[at + 1:])))
        for _ in range(500):
            spec = random_spec(source)
            events = tuple(source.choice(reference.events(spec, (3, 4))) for _ in range(source.randrange(5)))
            configs = possible_configs(spec, events)
            self.good(("possible", spec, events, configs))
            run = find_run(spec, events)
            found.append(self.holds(("run", spec, events, run)))
            found.append(self.holds(("run", spec, events, configs)))
        self.assertGreater(found.count(True), 100)
        self.assertGreater(found.count(False), 300)

    def test_arguments_stay(self):
        thing = ("run", [CELL], {"a": [0]}, [0])
        self.assertFalse(claim_holds(thing))
        self.assertEqual(thing, ("run", [CELL], {"a": [0]}, [0]))


class HistoryTest(unittest.TestCase):
    def is_one(self, spec, *things):
        for thing in things:
            self.assertIs(is_history(spec, thing), True, thing)
            self.assertTrue(history(spec, thing), thing)

    def is_none(self, spec, *things):
        for thing in things:
            self.assertIs(is_history(spec, thing), False, thing)
            self.assertFalse(history(spec, thing), thing)

    def test_histories(self):
        self.is_one(
            CELL, (), (CRASH,), (CRASH, CRASH), (PUT, GET, CUT), (("cut", "get", ()),),
            # The spec need not have the reply, nor give this many results.
            (("done", "get", (), "never", ()),), (("done", "get", (), "is", (1, 2)),),
            (("done", "put", (0,), "is", (10 ** 9,)),),
        )
        for spec in SPECS:
            for events in itertools.product(reference.events(spec, (0, 10 ** 9)), repeat=1):
                self.is_one(spec, events, events * 2)

    def test_what_is_none(self):
        self.is_none(
            CELL, None, [], [CRASH], CRASH, "crash", ("crash",), ((),), ("cut",), ((("crash",),),), (("crash", ()),),
            (["crash"],),
            (("Crash",),), (("cut",),), (("cut", "get"),), (("cut", "put", ()),), (("cut", "put", (1, 2)),),
            (("cut", "get", (1,)),),
            (("cut", "never", ()),), (("cut", "put", (7,), "ok", ()),), (("cut", "put", (-1,)),),
            (("cut", "put", (True,)),),
            (("cut", "put", (10 ** 9 + 1,)),), (("cut", "put", [7]),), (("cut", ["put"], (7,)),),
            (("cut", None, (7,)),),
            (("cut", {"put": 0}, (7,)),), (("done", "put", (7,)),), (("done", "put", (7,), "ok"),),
            (("done", "put", (7,), "Ok", ()),),
            (("done", "put", (7,), "", ()),), (("done", "put", (7,), None, ()),),
            (("done", "put", (7,), "ok", (1, 2, 3)),),
            (("done", "put", (7,), "ok", (False,)),), (("done", "put", (7,), "ok", [1]),),
            (("done", "put", (7,), "ok", ("7",)),),
            (("done", "put", (7,), "ok", None),), (("done", "put", (), "ok", ()),), (("done", "pu", (7,), "ok", ()),),
            (("done", "put", (7,), "ok", (), ()),), (CRASH, None),
            (("do", "put", (7,), "ok", ()),), (("cut", "put", (7,), "ok", ()),), (("crash", "put", (7,), "ok", ()),),
            (PUT, list(PUT)), (("done", "put", (7,), "okokokoko", ()),),
        )
        self.is_none(SILENT, (("cut", "get", ()),), (PUT,))
        self.is_none(PING, (PUT,), (CUT,))


class BeyondTheLimitsTest(ClaimTestCase):
    def setUp(self):
        self.started = time.monotonic()

    def tearDown(self):
        self.assertLess(time.monotonic() - self.started, 30)

    def test_large_specs(self):
        modes = 40
        names = tuple((letter + end, 0) for letter in "abcdef" for end in "xyz")
        cases = tuple(
            tuple(tuple(("ok", (), (mode + step) % modes,
            ()) for step in range(5) if mode + step < modes) for _ in names)
            for mode in range(modes)
        )
        crashes = tuple(tuple((low, ()) for low in range(mode + 1)) for mode in range(modes))
        spec = ((0,) * modes, names, cases, crashes)
        self.assertIs(is_spec(spec), True)
        events = (("done", "ax", (), "ok", ()),) * 60
        configs = possible_configs(spec, events)
        self.assertEqual(len(configs), 40)
        self.good(("possible", spec, events, configs))
        self.wrong(("possible", spec, events, configs[1:]))
        self.assertIs(claim_holds(("run", spec, events, find_run(spec, events))), True)
        self.assertIs(claim_holds(("run", spec, events, find_run(spec, events)[:-1])), False)

    def test_long_histories(self):
        events = (PUT, GET, CUT, CRASH) * 500
        self.assertIs(claim_holds(("possible", CELL, events, ())), False)
        self.assertIs(claim_holds(("possible", CELL, events, possible_configs(CELL, events))), True)
        run = find_run(CELL, events)
        self.assertIs(claim_holds(("run", CELL, events, run)), True)
        self.assertIs(claim_holds(("run", CELL, events, run[1:])), False)

    def test_many_configs(self):
        upper = product_layer(CELLS)[0]
        events = tuple(("cut", "put" + end, (number,)) for number in range(9) for end in "abc")
        configs = possible_configs(upper, events)
        self.assertEqual(len(configs), 1000)
        self.assertIs(claim_holds(("possible", upper, events, configs)), True)
        self.assertIs(claim_holds(("possible", upper, events, configs[:-1])), False)

    def test_large_layers(self):
        layer = compose_layers(TWICE, (compose_layers(TWICE, (TWICE, TWICE)),) * 2)
        whole = compose_layers(layer, (TWICE,) * 8)
        self.assertEqual(len(whole[1]), 16)
        self.assertIs(is_layer(whole), True)
        kind, thing = check_layer(whole)
        self.good((kind, whole, thing))
        self.wrong((kind, whole, thing[1:]))

    def test_many_states(self):
        layer = wheel_layer(6, 6, 6, 2)
        rows = list(itertools.product(range(6), range(6), range(6), range(2)))
        states = tuple((phase, tuple((mode, ()) for mode in row), EMPTY) for phase in ("down", "up") for row in rows)
        self.assertEqual(len(states), 864)
        self.assertIs(claim_holds(("valid", layer, states)), True)
        self.assertIs(claim_holds(("valid", layer, states[:-1])), False)

    def test_long_programs_and_many_steps(self):
        calls = tuple(("call", 0, "ping", (), (("ok", (), at + 1),)) for at in range(200))
        layer = (PING, (PING,), (calls + (("return", "no", ()),),), (UP,))
        steps = (("crash", (0,)), ("recover", ())) * 50 + (("done", "ping", (0,) * 200),)
        self.assertIs(claim_holds(("invalid", layer, steps)), True)
        self.assertIs(claim_holds(("invalid", layer, steps[:-1] + (("done", "ping", (0,) * 199),))), False)
        self.assertIs(claim_holds(("invalid", layer, steps[1:])), False)

    def test_calls_with_many_outcomes(self):
        # Each of a hundred calls has a hundred outcomes; a path takes one of each.
        replies = [first + second for first in "abcdefghij" for second in "abcdefghij"]
        spec = ((0,), (("ask", 0),), ((tuple((reply, (), 0, ()) for reply in replies),),), (((0, ()),),))
        self.assertIs(is_spec(spec), True)
        calls = tuple(
            ("call", 0, "ask", (), tuple((reply, (), at + 1) for reply in replies[:20])) for at in range(100)
        )
        layer = (PING, (spec,), (calls + (("return", "ok", ()),),), (UP,))
        self.assertIs(claim_holds(("invalid", layer, (("done", "ping", (3,) * 99 + (20,)),))), True)
        self.assertIs(claim_holds(("invalid", layer, (("done", "ping", (3,) * 100),))), False)

    def test_large_values(self):
        for thing in (
            (CRASH,) * 14000, "a" * 8000, ["run"] * 29990, ("run", CELL, (CRASH,) * 9000, EMPTY * 9000),
            {at: CRASH for at in range(14000)},
            ("possible", CELL, (CRASH,) * 9000, EMPTY * 9000), ("valid", GOOD, (("up", EMPTY, EMPTY),) * 2400),
            ("invalid", GOOD, (("crash", (0,)), ("recover", ())) * 2400), ("run", (0,) * 29990, (), ()),
            ("valid", ((),) * 29990, ()), ("invalid", BAD, (0,) * 29990), ("run", CELL, (0,) * 29990, ()),
        ):
            expected = isinstance(thing, tuple) and thing[0] == "run" and thing[2:] == ((CRASH,) * 9000, EMPTY * 9000)
            self.assertIs(claim_holds(thing), expected)
