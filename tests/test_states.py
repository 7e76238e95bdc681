import random
import time
import unittest

from eachheight import states
from eachheight.layers import is_layer
from eachheight.states import initial_state, is_state
from tests import reference_layers
from tests.layer_samples import FIVE, GOOD, LAYERS, TWICE, random_layers, random_state, same_layer
from tests.samples import CACHE, CELL, ODD_VALUES, PAIR, PING, SILENT, all_swaps, nested

UP = ("up",)
# An upper spec with two values over a cell, a pair and a cache: up to five symbols.
WIDE = (PAIR, (CELL, PAIR, CACHE), ((("return", "no", ()),),) * 3, (UP,))
STATE = ("up", ((1, (0,)), (1, (1, 0)), (2, (2, 1))), ((0, ()), (1, (-1, 2)), (1, (0, 0)), (1, (2, -1))))


def with_symbols(first, pair, last, candidates=((0, ()),)):
    return ("down", ((1, first), (1, pair), (2, last)), candidates)


class StateTestCase(unittest.TestCase):
    def is_state(self, layer, thing):
        found = is_state(layer, thing)
        self.assertIs(type(found), bool)
        self.assertIs(is_state(layer, thing), found)
        self.assertEqual(found, reference_layers.state(layer, thing), thing)
        return found

    def good(self, layer, *things):
        for thing in things:
            self.assertTrue(self.is_state(layer, thing), thing)

    def wrong(self, layer, *things):
        for thing in things:
            self.assertFalse(self.is_state(layer, thing), thing)


class InitialStateTest(StateTestCase):
    def test_example_of_the_interface(self):
        self.assertEqual(initial_state(GOOD), ("up", ((0, ()),), ((0, ()),)))

    def test_each_lower_spec_is_in_mode_0(self):
        self.assertEqual(initial_state(TWICE), ("up", ((0, ()), (0, ())), ((0, ()),)))
        self.assertEqual(initial_state(FIVE), ("up", ((0, ()),) * 5, ((0, ()),)))
        self.assertEqual(initial_state((SILENT, (PING,) * 9, (), (UP,))), ("up", ((0, ()),) * 9, ((0, ()),)))
        for layer in LAYERS:
            self.assertEqual(initial_state(layer), reference_layers.first_state(layer))
            self.assertIs(is_state(layer, initial_state(layer)), True)

    def test_parameters_have_their_names(self):
        self.assertEqual(initial_state(layer=GOOD), initial_state(GOOD))
        self.assertIs(is_state(layer=GOOD, thing=initial_state(GOOD)), True)

    def test_defined_in_the_file(self):
        for name in ("initial_state", "is_state"):
            self.assertEqual(getattr(states, name).__module__, "eachheight.states")


class StateTest(StateTestCase):
    def test_layer_of_these_tests(self):
        self.assertIs(is_layer(WIDE), True)

    def test_example_of_the_interface(self):
        self.assertIs(is_state(GOOD, ("down", ((0, ()),), ((0, ()),))), True)

    def test_other_values(self):
        for layer in LAYERS:
            self.wrong(layer, *ODD_VALUES)
            self.wrong(layer, *[nested(depth) for depth in range(30)])
            self.wrong(layer, initial_state(layer)[:2], initial_state(layer) + ((),), (initial_state(layer),))

    def test_phases(self):
        for phase in ("up", "down"):
            self.good(WIDE, (phase,) + STATE[1:])
        for phase in ("", "Up", "up ", "downs", "u", None, 0, 1, True, False, (), ("up",), ["up"], {"up": 0}):
            self.wrong(WIDE, (phase,) + STATE[1:])

    def test_a_pair_for_each_lower_spec(self):
        configs = STATE[1]
        for wrong in (configs[:2], configs[1:], configs + ((0, ()),), configs[::-1], list(configs), (), None,
                      dict(enumerate(configs)), configs[:2] + (None,), configs[:2] + ((0,),),
                      configs[:2] + ((0, (), ()),)):
            self.wrong(WIDE, ("up", wrong, ((0, ()),)))
        self.good(FIVE, initial_state(FIVE))
        self.wrong(FIVE, ("up", ((0, ()),) * 4, ((0, ()),)), ("up", ((0, ()),) * 6, ((0, ()),)))

    def test_modes_and_their_numbers_of_symbols(self):
        start = ((0, ()), (0, ()))
        for config in ((0, ()), (1, (0,)), (2, (0, 1)), (2, (0, 0))):
            self.good(WIDE, ("up", start + (config,), ((0, ()),)))
        for config in ((0, (0,)), (1, ()), (1, (0, 1)), (2, (0,)), (2, (0, 1, 2)), (2, ()), (3, ()), (-1, (0, 1)),
                       (-3, ()), (True, (0,)), (False, ()), (None, ()), ("0", ()), ((0,), ()), (1, [0]), (1, {0: 0}),
                       (1, 0), (1, "0"), [1, (0,)], (0, None), (0, [])):
            self.wrong(WIDE, ("up", start + (config,), ((0, ()),)))

    def test_symbols_are_numbered_by_their_first_occurrence(self):
        self.good(WIDE, *[with_symbols(*row) for row in (
            ((0,), (0, 0), (0, 0)), ((0,), (1, 2), (3, 4)), ((0,), (1, 0), (2, 1)), ((0,), (0, 1), (0, 2)),
            ((0,), (1, 1), (1, 2)), ((0,), (1, 2), (2, 0)),
        )])
        self.wrong(WIDE, *[with_symbols(*row) for row in (
            # In another order.
            ((1,), (0, 0), (0, 0)), ((0,), (2, 1), (3, 4)), ((0,), (1, 2), (4, 3)), ((2,), (1, 0), (0, 0)),
            # With gaps.
            ((0,), (2, 2), (2, 2)), ((0,), (1, 3), (3, 1)), ((0,), (0, 0), (0, 2)), ((1,), (1, 1), (1, 1)),
            ((7,), (7, 7), (7, 7)), ((0,), (1, 2), (3, 10 ** 39)),
            # Negative ones; nothing is lost in a lower spec.
            ((-1,), (0, 0), (0, 0)), ((0,), (-1, 0), (1, 0)), ((0,), (0, 0), (0, -1)), ((-1,), (-1, -1), (-1, -1)),
            ((0,), (-2, 0), (0, 0)),
            # No integers.
            ((False,), (0, 0), (0, 0)), ((0,), (True, 1), (1, 1)), ((0,), (1, 2), (True, 0)), ((0,), (1, 2), (3, None)),
            ((0,), (1, 2), (3, "4")), ((0,), (1, 2), (3, (4,))), ((0,), (1, [2]), (3, 4)),
        )])

    def test_symbols_are_counted_over_specs_without_any(self):
        layer = (SILENT, (CELL, PING, CELL), (), (UP,))
        for row, good in (((0, 0), True), ((0, 1), True), ((1, 0), False), ((1, 1), False), ((0, 2), False)):
            configs = ((1, row[:1]), (0, ()), (1, row[1:]))
            self.assertEqual(self.is_state(layer, ("up", configs, ((0, ()),))), good)
        self.good(layer, ("up", ((0, ()), (0, ()), (1, (0,))), ((0, ()),)))
        self.wrong(layer, ("up", ((0, ()), (0, ()), (1, (1,))), ((0, ()),)))

    def candidates(self, *candidates):
        """Return a state with the symbols 0 to 2 and these candidates."""
        return with_symbols((0,), (1, 0), (2, 1), candidates)

    def test_candidates(self):
        self.good(WIDE, self.candidates((0, ())), self.candidates((1, (0, 1))), self.candidates((1, (2, 2))))
        self.good(WIDE, self.candidates((0, ()), (1, (0, 1)), (1, (0, 2)), (1, (1, 0))))
        # None at all, out of order, twice.
        self.wrong(WIDE, self.candidates())
        self.wrong(WIDE, self.candidates((1, (0, 1)), (0, ())), self.candidates((1, (1, 0)), (1, (0, 1))))
        self.wrong(WIDE, self.candidates((0, ()), (0, ())), self.candidates((1, (0, 1)), (1, (0, 1))))
        self.wrong(WIDE, self.candidates((0, ()), (1, (0, 1)), (1, (0, 1))))
        self.wrong(WIDE, self.candidates((1, (0, 0)), (1, (-1, 0))))
        for wrong in ([(0, ())], {0: ()}, (0, ()), "", None, 0, ((),), (None,), ("ab",), ([0, ()],), ((0,),),
                      ((0, (), ()),), ((0, []),), ((0, None),), ((1, [0, 0]),), ((1, {0: 0, 1: 1}),), ((1, 0),),
                      ((1, "00"),)):
            self.wrong(WIDE, with_symbols((0,), (1, 0), (2, 1), wrong))

    def test_modes_of_candidates_are_those_of_the_upper_spec(self):
        for wrong in ((0, (0,)), (0, (0, 0)), (1, ()), (1, (0,)), (1, (0, 0, 0)), (2, (0, 0)), (2, ()), (-1, (0, 0)),
                      (-2, ()), (True, (0, 0)), (False, ()), (None, ()), ("1", (0, 0))):
            self.wrong(WIDE, self.candidates(wrong))
        # The upper spec has two modes here, the lower one three, and the other way round.
        layer = (CELL, (CACHE,), (GOOD[2][0][1:],) * 2, (UP,))
        self.good(layer, ("up", ((2, (0, 1)),), ((1, (0,)),)))
        self.wrong(layer, ("up", ((2, (0, 1)),), ((2, (0, 1)),)))
        layer = (CACHE, (CELL,), (GOOD[2][0][1:],) * 3, (UP,))
        self.good(layer, ("up", ((1, (0,)),), ((2, (0, 0)),)))
        self.wrong(layer, ("up", ((2, (0, 1)),), ((1, (0,)),)))

    def test_symbols_of_candidates_occur_or_are_lost(self):
        for symbol in (-1, 0, 1, 2):
            self.good(WIDE, self.candidates((1, (symbol, 0))), self.candidates((1, (0, symbol))))
        self.good(WIDE, self.candidates((1, (-1, -1)), (1, (-1, 0)), (1, (0, -1))))
        for symbol in (-2, 3, 4, 10 ** 39, -10 ** 39, True, False, None, "0", (0,), [0]):
            self.wrong(WIDE, self.candidates((1, (symbol, 0))), self.candidates((1, (0, symbol))))
        # Nothing is held here, so all is lost.
        start = ((0, ()),) * 3
        self.good(WIDE, ("up", start, ((1, (-1, -1)),)))
        self.wrong(WIDE, ("up", start, ((1, (-1, 0)),)), ("up", start, ((1, (0, 0)),)))

    def test_states_that_cannot_be_reached(self):
        self.good(TWICE, ("up", ((0, ()), (1, (0,))), ((1, (-1,)), (1, (0,)))))
        self.good(GOOD, ("up", ((0, ()),), ((0, ()),)))
        self.good(same_layer(CELL), ("up", ((1, (0,)),), ((0, ()),)), ("down", ((0, ()),), ((1, (-1,)),)))

    def test_reachable_states(self):
        for layer in LAYERS:
            self.good(layer, *reference_layers.reachable(layer)[0])


class ChangedStatesTest(StateTestCase):
    def test_other_kinds_at_any_depth(self):
        def other_kinds(part):
            if isinstance(part, tuple):
                return [list(part), dict(enumerate(part)), None, str(part), [part], (part,)]
            if isinstance(part, int):
                return [bool(part), str(part), None, (part,), [part], part + 10 ** 30, -3 - part]
            return [part.upper(), part + " ", (part,), [part], None, {part: part}]

        for thing in all_swaps(STATE, other_kinds):
            self.assertIs(is_state(WIDE, thing), False, thing)

    def test_parts_removed_repeated_or_added_at_any_depth(self):
        extras = ((), 0, 1, "up", None, (0, ()), (1, (0, 1)))

        def other_parts(part):
            if not isinstance(part, tuple):
                return []
            copies = [part[:at] + part[at + 1:] for at in range(len(part))]
            copies += [part[:at] + part[at:at + 1] + part[at:] for at in range(len(part))]
            copies += [part[::-1]]
            return copies + [part[:at] + (extra,) + part[at:] for extra in extras for at in (0, len(part))]

        found = [self.is_state(WIDE, thing) for thing in all_swaps(STATE, other_parts)]
        self.assertEqual(set(found), {True, False})

    def test_integers_replaced(self):
        def others(part):
            return [number for number in range(-2, 5) if number != part] if isinstance(part, int) else []

        found = [self.is_state(WIDE, thing) for thing in all_swaps(STATE, others)]
        self.assertEqual(set(found), {True, False})

    def test_random_states(self):
        source = random.Random(21)
        found = []
        for layer in random_layers(20, 400):
            state = random_state(source, layer)
            self.good(layer, state)
            changed = all_swaps(state, lambda part: [0, 1, -1, True] if type(part) is int else [])
            for thing in source.sample(changed, min(len(changed), 20)):
                found.append(self.is_state(layer, thing))
        self.assertGreater(found.count(True), 300)
        self.assertGreater(found.count(False), 300)

    def test_arguments_stay(self):
        thing = ("up", [[0, []]], [{"a": [0]}])
        self.assertFalse(is_state(GOOD, thing))
        self.assertEqual(thing, ("up", [[0, []]], [{"a": [0]}]))
        parts = ("up", ((0, ()),), ([0, []],))
        self.assertFalse(is_state(GOOD, parts))
        self.assertEqual(parts, ("up", ((0, ()),), ([0, []],)))


class LargeStatesTest(unittest.TestCase):
    def setUp(self):
        self.started = time.monotonic()

    def tearDown(self):
        self.assertLess(time.monotonic() - self.started, 20)

    def spec(self, count):
        """Return a spec whose mode 1 holds this many values."""
        return ((0, count), (), ((), ()), (((0, ()),), ((0, ()),)))

    def test_many_candidates(self):
        layer = (self.spec(2), (self.spec(12),) * 8, (), (UP,))
        configs = tuple((1, tuple(range(at, at + 12))) for at in range(0, 96, 12))
        candidates = tuple((1, (low, high)) for low in range(-1, 76) for high in range(-1, 96))
        self.assertEqual(len(candidates), 7469)
        state = ("up", configs, candidates)
        self.assertIs(is_state(layer, state), True)
        self.assertIs(is_state(layer, ("up", configs, candidates[:60])), True)
        self.assertIs(is_state(layer, ("up", configs, candidates + candidates[-1:])), False)
        self.assertIs(is_state(layer, ("up", configs, candidates[:-1] + ((1, (75, 96)),))), False)
        self.assertIs(is_state(layer, ("up", configs, candidates[:-2] + candidates[:-3:-1])), False)

    def test_many_lower_specs(self):
        layer = (SILENT, (self.spec(12),) * 1500, (), (UP,))
        configs = tuple((1, tuple(range(at, at + 12))) for at in range(0, 18000, 12))
        self.assertIs(is_state(layer, ("up", configs, ((0, ()),))), True)
        self.assertIs(is_state(layer, ("up", configs[:-1] + ((1, (0,) * 11 + (17989,)),), ((0, ()),))), False)
        self.assertIs(is_state(layer, ("up", configs[::-1], ((0, ()),))), False)

    def test_other_large_values(self):
        for thing in (((),) * 29990, "a" * 8000, ("up", ((0, (0,) * 29000),), ((0, ()),)), [()] * 29990,
                      ("up", ((0, ()),), ((0, ()),) * 9000), ("up", ((0, ()),) * 9000, ((0, ()),)),
                      ("up", ((0, ()),), ((0, (0,) * 29000),)), {at: () for at in range(14000)}):
            self.assertIs(is_state(GOOD, thing), False)
