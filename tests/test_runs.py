import itertools
import random
import time
import unittest

from eachheight import runs
from eachheight.runs import crash_results, find_run, outcomes_at, possible_configs, run_holds
from eachheight.specs import is_spec
from tests import reference
from tests.samples import CACHE, CELL, ODD_VALUES, PAIR, PING, SILENT, SPECS, all_swaps, nested

PUT = ("done", "put", (7,), "ok", ())
GET = ("done", "get", (), "is", (7,))
NONE = ("done", "get", (), "none", ())
CRASH = ("crash",)


def cut_put(value):
    return ("cut", "put", (value,))


class OutcomesTest(unittest.TestCase):
    def test_what_is_held_and_what_is_passed(self):
        self.assertEqual(outcomes_at(CELL, (0, ()), "get", ()), (("none", (), (0, ())),))
        self.assertEqual(outcomes_at(CELL, (0, ()), "put", (9,)), (("ok", (), (1, (9,))),))
        self.assertEqual(outcomes_at(CELL, (1, (7,)), "get", ()), (("is", (7,), (1, (7,))),))
        self.assertEqual(outcomes_at(CELL, (1, (7,)), "put", (9,)), (("ok", (), (1, (9,))),))
        self.assertEqual(outcomes_at(PING, (0, ()), "ping", ()), (("ok", (), (0, ())),))

    def test_several_outcomes(self):
        self.assertEqual(
            outcomes_at(PAIR, (1, (3, 4)), "set", (6, 5)),
            (("ok", (), (1, (5, 6))), ("ok", (), (1, (6, 5))), ("same", (), (1, (3, 4)))),
        )
        self.assertEqual(
            outcomes_at(PAIR, (1, (3, 4)), "both", ()),
            (("are", (3, 4), (1, (3, 4))), ("are", (4, 3), (1, (3, 4)))),
        )

    def test_ascending_by_values_not_by_references(self):
        self.assertEqual(
            outcomes_at(PAIR, (0, ()), "set", (9, 2)),
            (("ok", (), (1, (2, 9))), ("ok", (), (1, (9, 2)))),
        )
        self.assertEqual(
            outcomes_at(PAIR, (1, (4, 3)), "both", ()),
            (("are", (3, 4), (1, (4, 3))), ("are", (4, 3), (1, (4, 3)))),
        )

    def test_the_same_outcome_by_equal_values_stands_once(self):
        self.assertEqual(outcomes_at(PAIR, (0, ()), "set", (8, 8)), (("ok", (), (1, (8, 8))),))
        self.assertEqual(outcomes_at(PAIR, (1, (8, 8)), "both", ()), (("are", (8, 8), (1, (8, 8))),))

    def test_greatest_values(self):
        top = 10 ** 9
        self.assertEqual(outcomes_at(CELL, (1, (0,)), "put", (top,)), (("ok", (), (1, (top,))),))

    def test_parameters_have_their_names(self):
        found = outcomes_at(spec=CELL, config=(1, (7,)), op="get", arguments=())
        self.assertEqual(found, (("is", (7,), (1, (7,))),))


class CrashResultsTest(unittest.TestCase):
    def test_results(self):
        self.assertEqual(crash_results(CELL, (0, ())), ((0, ()),))
        self.assertEqual(crash_results(CACHE, (2, (3, 9))), ((1, (3,)), (1, (9,)), (2, (3, 9))))
        self.assertEqual(crash_results(spec=CACHE, config=(1, (3,))), ((1, (3,)),))

    def test_ascending_by_values(self):
        self.assertEqual(crash_results(CACHE, (2, (9, 3))), ((1, (3,)), (1, (9,)), (2, (9, 3))))
        self.assertEqual(
            crash_results(PAIR, (1, (9, 3))), ((0, ()), (1, (3, 3)), (1, (9, 3)), (1, (9, 9)))
        )

    def test_equal_values(self):
        self.assertEqual(crash_results(CACHE, (2, (5, 5))), ((1, (5,)), (2, (5, 5))))
        self.assertEqual(crash_results(PAIR, (1, (5, 5))), ((0, ()), (1, (5, 5))))


class HistoryTest(unittest.TestCase):
    def check(self, spec, history, configs):
        self.assertEqual(possible_configs(spec, history), configs)
        self.assertEqual(possible_configs(spec, history), configs)
        run = find_run(spec, history)
        self.assertEqual(find_run(spec, history), run)
        if configs == ():
            self.assertIsNone(run)
        else:
            self.assertIs(run_holds(spec, history, run), True)
            self.assertEqual(len(run), len(history))
            self.assertIn(run[-1] if run else (0, ()), configs)
        self.assertIs(run_holds(spec, history, None), False)

    def test_empty_history(self):
        for spec in SPECS:
            self.check(spec, (), ((0, ()),))
            self.assertEqual(find_run(spec, ()), ())
            self.assertIs(run_holds(spec, (), ()), True)
            for thing in ODD_VALUES:
                self.assertIs(run_holds(spec, (), thing), type(thing) is tuple and thing == ())

    def test_calls_that_returned(self):
        self.check(CELL, (PUT,), ((1, (7,)),))
        self.check(CELL, (NONE, PUT, GET), ((1, (7,)),))
        self.check(PAIR, (("done", "set", (4, 3), "ok", ()),), ((1, (3, 4)), (1, (4, 3))))
        self.check(
            PAIR,
            (("done", "set", (4, 3), "ok", ()), ("done", "swap", (), "yes", (3,))),
            ((1, (3, 4)),),
        )

    def test_without_a_run(self):
        for history in (
            (GET,), (PUT, NONE), (PUT, ("done", "get", (), "is", (8,))), (PUT, ("done", "get", (), "is", ())),
            (("done", "get", (), "none", (7,)),), (PUT, ("done", "get", (), "is", (7, 7))),
            (("done", "get", (), "never", ()),), (("done", "get", (), "ok", ()),), (PUT, CRASH, NONE),
            (NONE, GET, PUT, CRASH), (("done", "put", (7,), "ok", (7,)),),
        ):
            self.check(CELL, history, ())
        self.check(PAIR, (("done", "both", (), "are", (0, 0)),), ())

    def test_crashes_in_a_row(self):
        self.check(CELL, (CRASH,), ((0, ()),))
        self.check(CELL, (CRASH, CRASH, CRASH), ((0, ()),))
        self.check(CELL, (PUT, CRASH, CRASH), ((1, (7,)),))
        self.check(SILENT, (CRASH, CRASH), ((0, ()),))
        writes = (PUT, ("done", "put", (5,), "ok", ()))
        for crashes in (1, 2, 3):
            self.check(CACHE, writes + (CRASH,) * crashes, ((1, (5,)), (1, (7,)), (2, (7, 5))))
        self.check(CACHE, writes + (CRASH, GET, CRASH), ((1, (7,)),))

    def test_a_cut_call_was_executed_or_not(self):
        self.check(CELL, (cut_put(7),), ((0, ()), (1, (7,))))
        self.check(CELL, (cut_put(7), GET), ((1, (7,)),))
        self.check(CELL, (cut_put(7), NONE), ((0, ()),))
        self.check(CELL, (PUT, cut_put(8)), ((1, (7,)), (1, (8,))))
        self.check(CELL, (PUT, cut_put(7)), ((1, (7,)),))
        self.check(CELL, (PUT, ("cut", "get", ())), ((1, (7,)),))
        self.check(CELL, (cut_put(1), cut_put(2), CRASH), ((0, ()), (1, (1,)), (1, (2,))))

    def test_a_cut_call_is_a_crash_too(self):
        # Executed or not, what the caches held may be lost.
        writes = (PUT, ("done", "put", (5,), "ok", ()))
        self.check(
            CACHE, writes + (cut_put(3),),
            ((1, (3,)), (1, (5,)), (1, (7,)), (2, (7, 3)), (2, (7, 5))),
        )
        once = ((0, 1), (("put", 1),), (((("ok", (), 1, (0,)),),),) + (((("ok", (), 1, (1,)),),),),
                (((0, ()),), ((0, ()),)))
        self.assertTrue(is_spec(once))
        self.check(once, (PUT,), ((1, (7,)),))
        self.check(once, (PUT, CRASH), ((0, ()),))
        self.check(once, (cut_put(7),), ((0, ()),))

    def test_a_cut_call_takes_any_outcome(self):
        self.check(
            PAIR, (("cut", "set", (1, 2)),),
            ((0, ()), (1, (1, 1)), (1, (1, 2)), (1, (2, 1)), (1, (2, 2))),
        )

    def test_parameters_have_their_names(self):
        self.assertEqual(possible_configs(spec=CELL, history=(PUT,)), ((1, (7,)),))
        self.assertEqual(find_run(spec=CELL, history=(PUT,)), ((1, (7,)),))
        self.assertIs(run_holds(spec=CELL, history=(PUT,), thing=((1, (7,)),)), True)

    def test_defined_in_the_file(self):
        for name in ("outcomes_at", "crash_results", "possible_configs", "find_run", "run_holds"):
            self.assertEqual(getattr(runs, name).__module__, "eachheight.runs")


class AllRunsTest(unittest.TestCase):
    def check(self, spec, history):
        expected = reference.runs(spec, history)
        ends = {run[-1] if run else (0, ()) for run in expected}
        self.assertEqual(possible_configs(spec, history), tuple(sorted(ends)), history)
        run = find_run(spec, history)
        if expected:
            self.assertIn(run, expected)
        else:
            self.assertIsNone(run)
        return expected

    def test_all_short_histories(self):
        for spec in SPECS:
            events = reference.events(spec, (3, 5))
            for length in (0, 1, 2):
                for history in itertools.product(events, repeat=length):
                    self.check(spec, history)

    def test_longer_histories(self):
        source = random.Random(7)
        found = []
        for _ in range(3000):
            spec = source.choice(SPECS)
            events = reference.events(spec, (3, 5))
            history, expected = (), {()}
            while len(history) < 6:
                longer = history + (source.choice(events),)
                if reference.runs(spec, longer) or source.randrange(40) == 0:
                    history = longer
            expected = self.check(spec, history)
            found.append(bool(expected))
            for run in sorted(expected)[:5]:
                self.assertIs(run_holds(spec, history, run), True)
        self.assertGreater(found.count(True), 300)
        self.assertGreater(found.count(False), 30)

    def test_run_holds_for_nothing_else(self):
        for spec in (CELL, CACHE, PAIR):
            slots = spec[0]
            configs = [
                (mode, values) for mode, count in enumerate(slots)
                for values in itertools.product((3, 5), repeat=count)
            ]
            events = reference.events(spec, (3, 5))
            for history in itertools.product(events[::3], repeat=2):
                expected = reference.runs(spec, history)
                for thing in itertools.product(configs, repeat=2):
                    self.assertIs(run_holds(spec, history, thing), thing in expected)


class RunHoldsTest(unittest.TestCase):
    HISTORY = (NONE, ("done", "put", (1,), "ok", ()), CRASH, ("cut", "put", (0,)))
    RUN = ((0, ()), (1, (1,)), (1, (1,)), (1, (0,)))

    def test_runs(self):
        self.assertIs(run_holds(CELL, self.HISTORY, self.RUN), True)
        self.assertIs(run_holds(CELL, self.HISTORY, self.RUN[:3] + ((1, (1,)),)), True)
        self.assertIs(run_holds(CELL, self.HISTORY, self.RUN[:3] + ((0, ()),)), False)

    def test_other_values(self):
        for thing in ODD_VALUES + tuple(nested(depth) for depth in range(30)):
            self.assertIs(run_holds(CELL, self.HISTORY, thing), False)
            self.assertIs(run_holds(CELL, (CRASH,), (thing,)), False)
            self.assertIs(run_holds(CELL, (CRASH,), ((0, thing),)), type(thing) is tuple and thing == ())
            self.assertIs(run_holds(CELL, (PUT,), ((1, (thing,)),)), False)
            self.assertIs(run_holds(CELL, (PUT,), ((thing, (7,)),)), type(thing) is int and thing == 1)

    def test_other_kinds_at_any_depth(self):
        def other_kinds(part):
            if isinstance(part, tuple):
                return [list(part), dict(enumerate(part)), None, str(part), [part], (part,)]
            return [bool(part), str(part), None, (part,), [part], -1 - part, part + 10 ** 9, 2]

        for thing in all_swaps(self.RUN, other_kinds):
            self.assertIs(run_holds(CELL, self.HISTORY, thing), False, thing)

    def test_bools_are_no_integers(self):
        history = (("done", "put", (1,), "ok", ()),)
        self.assertIs(run_holds(CELL, history, ((1, (1,)),)), True)
        self.assertIs(run_holds(CELL, history, ((True, (1,)),)), False)
        self.assertIs(run_holds(CELL, history, ((1, (True,)),)), False)
        self.assertIs(run_holds(CELL, (CRASH,), ((False, ()),)), False)

    def test_parts_removed_repeated_or_added_at_any_depth(self):
        def other_parts(part):
            if not isinstance(part, tuple):
                return []
            copies = [part[:at] + part[at + 1:] for at in range(len(part))]
            copies += [part[:at] + part[at:at + 1] + part[at:] for at in range(len(part))]
            return copies + [part + (extra,) for extra in ((), 0, 1, None, (0, ()), (1, (1,)))]

        for thing in all_swaps(self.RUN, other_parts):
            self.assertIs(run_holds(CELL, self.HISTORY, thing), False, thing)

    def test_arguments_stay(self):
        thing = [[0, []], {"a": [1]}]
        run_holds(CELL, (CRASH, CRASH), thing)
        self.assertEqual(thing, [[0, []], {"a": [1]}])
        parts = ([0, []], {"a": [1]})
        run_holds(CELL, (CRASH, CRASH), parts)
        self.assertEqual(parts, ([0, []], {"a": [1]}))

    def test_large_values_are_quick(self):
        started = time.monotonic()
        self.assertIs(run_holds(CELL, self.HISTORY, ((0, ()),) * 9000), False)
        self.assertIs(run_holds(CELL, (CRASH,), ((0, (7,) * 29990),)), False)
        self.assertIs(run_holds(CELL, (CRASH,), ((10 ** 39, ()),)), False)
        self.assertIs(run_holds(CELL, (CRASH,) * 9000, ((0, ()),) * 9000), True)
        self.assertLess(time.monotonic() - started, 20)


class ManyConfigsTest(unittest.TestCase):
    """Modes 1 to 3 hold three values; "put" replaces any one, a crash may change between the modes."""

    def spec(self):
        start = ((("ok", (), 1, (0, 0, 0)),),)
        put = ((("ok", (), 1, (0, 1, 3)), ("ok", (), 2, (0, 3, 2)), ("ok", (), 3, (3, 1, 2))),)
        entry = tuple((mode, (0, 1, 2)) for mode in (1, 2, 3))
        return ((0, 3, 3, 3), (("put", 1),), (start, put, put, put), (((0, ()),), entry, entry, entry))

    def test_forty_events_with_nearly_two_hundred_configs(self):
        spec = self.spec()
        self.assertTrue(is_spec(spec))
        history = tuple(cut_put(at % 4) for at in range(40))
        triples = itertools.product(range(4), repeat=3)
        expected = ((0, ()),) + tuple(sorted((mode, row) for row in triples for mode in (1, 2, 3)))
        self.assertEqual(len(expected), 193)
        started = time.monotonic()
        self.assertEqual(possible_configs(spec, history), expected)
        run = find_run(spec, history)
        self.assertIs(run_holds(spec, history, run), True)
        self.assertIs(run_holds(spec, history, run[:-1] + ((1, (4, 4, 4)),)), False)
        ended = history + (("done", "put", (9,), "ok", ()),)
        self.assertEqual(len(possible_configs(spec, ended)), 49)
        self.assertEqual(possible_configs(spec, ended + (("done", "put", (9,), "no", ()),)), ())
        self.assertIsNone(find_run(spec, ended + (("done", "put", (9,), "no", ()),)))
        self.assertLess(time.monotonic() - started, 20)

    def test_a_run_is_found_where_only_one_path_goes_on(self):
        # Only the last event tells which of the many configs was the right one, and only one was.
        choose = (("ok", (), 1, (0, 1)), ("ok", (), 1, (1, 0)))
        spec = ((0, 2), (("ask", 0), ("set", 2)),
                (((("no", (), 0, ()),), choose), ((("is", (0, 1), 1, (0, 1)),), (("ok", (), 1, (0, 2)),) )),
                (((0, ()),), ((1, (0, 1)),)))
        self.assertTrue(is_spec(spec))
        for first in (3, 5):
            history = (("done", "set", (3, 5), "ok", ()), CRASH, ("done", "ask", (), "is", (first, 8 - first)))
            run = find_run(spec, history)
            self.assertEqual(run, ((1, (first, 8 - first)),) * 3)


class ExamplesTest(unittest.TestCase):
    def test_examples_of_the_interface(self):
        self.assertEqual(outcomes_at(CELL, (1, (7,)), "put", (9,)), (("ok", (), (1, (9,))),))
        self.assertEqual(crash_results(CELL, (1, (7,))), ((1, (7,)),))
        self.assertEqual(possible_configs(CELL, (("cut", "put", (7,)),)), ((0, ()), (1, (7,))))
        self.assertEqual(find_run(CELL, (("done", "put", (7,), "ok", ()),)), ((1, (7,)),))
        self.assertIs(run_holds(CELL, (("crash",),), ((0, ()),)), True)
