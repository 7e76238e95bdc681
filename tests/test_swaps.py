import itertools
import random
import time
import unittest

from eachheight import fitting
from eachheight.certificates import certificate_holds
from eachheight.checking import check_layer
from eachheight.combining import identity_layer, product_layer
from eachheight.errors import InvalidCertificate, Mismatch, SystemDown, TooManyStates, Uncovered, UnknownNode
from eachheight.layers import is_layer
from eachheight.states import initial_state
from eachheight.systems import System
from eachheight.trees import tree_nodes
from tests import reference_layers
from tests.layer_samples import ASKEW, BAD, GOOD, TWICE, random_layers, renamed, same_layer
from tests.samples import CACHE, CELL, ODD_VALUES, PAIR, PING, all_swaps, nested
from tests.tree_samples import BASE, HIGH, LOW, TREE, WIDE, on_bases

UP = ("up",)
EMPTY = ((0, ()),)
# As TWICE, but it writes the copies in the other order, and reads the second one; no recovery is right for both.
GET = (("call", 0, "get", (), (("is", (0,), 1), ("none", (), 2))), ("return", "is", (0,)), ("return", "none", ()))
SECOND = (
    CELL, (CELL, CELL),
    (
        (("call", 1, "get", (), (("is", (0,), 1), ("none", (), 2))), ("return", "is", (0,)), ("return", "none", ())),
        (
            ("call", 1, "put", (0,), (("ok", (), 1),)),
            ("call", 0, "put", (0,), (("ok", (), 2),)),
            ("return", "ok", ()),
        ),
    ),
    (("call", 1, "get", (), (("is", (5,), 1), ("none", (), 2))), ("call", 0, "put", (5,), (("ok", (), 2),)), UP),
)
# It uses the first copy only.
FIRST = (CELL, (CELL, CELL), (GET, (("call", 0, "put", (0,), (("ok", (), 1),)), ("return", "ok", ()))), (UP,))
# A certificate of it, with states that cannot be reached, in which the second copy holds something.
FIRST_STATES = tuple(sorted(set(
    reference_layers.reachable(FIRST)[0]
    + reference_layers.reachable(FIRST, start=("up", ((1, (0,)), (1, (1,))), ((1, (0,)),)))[0]
    + reference_layers.reachable(FIRST, start=("up", ((0, ()), (1, (0,))), ((0, ()),)))[0]
)))


def certificate_of(layer):
    kind, thing = check_layer(layer)
    assert kind == "valid"
    return thing


def fits(state, configs, candidates):
    """Return whether a state fits, by point 19: all replacements of symbols and of each LOST are tried."""
    phase, symbolic, expected = state
    if phase != "up" or [mode for mode, _ in symbolic] != [mode for mode, _ in configs]:
        return False
    pairs = [pair for (_, low), (_, high) in zip(symbolic, configs) for pair in zip(low, high)]
    values = dict(pairs)
    if any(values[symbol] != value for symbol, value in pairs):
        return False
    known = {value for _, row in candidates for value in row}
    for mode, symbols in expected:
        rows = [known if symbol == -1 else {values[symbol]} for symbol in symbols]
        if not any((mode, row) in candidates for row in itertools.product(*rows)):
            return False
    return True


def first_uncovered(certificate, children, candidates):
    for configs in itertools.product(*children):
        if not any(fits(state, configs, candidates) for state in certificate):
            return configs
    return None


class SwapTestCase(unittest.TestCase):
    def raises(self, error, method, *arguments, **attributes):
        with self.assertRaises(error) as caught:
            method(*arguments)
        self.assertIs(type(caught.exception), error)
        for name, value in attributes.items():
            self.assertEqual(repr(getattr(caught.exception, name)), repr(value))

    def seen(self, system, tree):
        return [(system.history(node), system.candidates(node)) for node in tree_nodes(tree)]

    def swap(self, system, node, layer, certificate):
        """Swap, or not, as the reference says. Return the configs that no state fits."""
        self.assertIs(certificate_holds(layer, certificate), True)
        children = [system.candidates(node + (k,)) for k in range(len(layer[1]))]
        expected = first_uncovered(certificate, children, system.candidates(node))
        if expected is None:
            self.assertIsNone(system.swap_layer(node, layer, certificate))
        else:
            self.raises(Uncovered, system.swap_layer, node, layer, certificate, configs=expected)
        return expected


class SwapTest(SwapTestCase):
    def test_examples_of_the_interface(self):
        self.assertIsNone(System(TREE).swap_layer((), GOOD, check_layer(GOOD)[1]))
        self.raises(InvalidCertificate, System(TREE).swap_layer, (), GOOD, ())

    def test_parameters_have_their_names(self):
        self.assertIsNone(System(TREE).swap_layer(node=(), layer=GOOD, certificate=check_layer(GOOD)[1]))

    def test_the_same_layer(self):
        for tree in (TREE, LOW, HIGH):
            system = System(tree)
            if tree is not TREE:
                system.call("put", (7,))
            for node in tree_nodes(tree):
                try:
                    system.base_config(node)
                except UnknownNode:
                    before = self.seen(system, tree)
                    layer = GOOD if tree is TREE else TWICE
                    self.assertIsNone(self.swap(system, node, layer, certificate_of(layer)))
                    self.assertEqual(self.seen(system, tree), before)

    def test_another_layer_goes_on_with_all_that_there_is(self):
        system = System(LOW, choices=(1, 2, 3))
        system.call("put", (7,))
        system.schedule_crash(4)
        before = self.seen(system, LOW)
        self.assertIsNone(self.swap(system, (), SECOND, certificate_of(SECOND)))
        self.assertEqual(self.seen(system, LOW), before)
        self.assertEqual((system.step_count(), system.is_down()), (2, False))
        self.assertEqual(system.call("get", ()), ("is", (7,)))
        self.assertEqual(system.history((1,))[-1], ("done", "get", (), "is", (7,)))
        # The crash that was scheduled is now in the second write, which is that of the first copy.
        self.assertIsNone(None if system.call("put", (8,)) else None)
        self.assertEqual(system.history((1,))[-1], ("done", "put", (8,), "ok", ()))
        self.assertIsNone(system.call("put", (9,)))
        self.assertEqual((system.base_config((0,)), system.base_config((1,))), ((1, (8,)), (1, (8,))))
        # Recovery is that of the new layer.
        self.assertIs(system.recover(), True)
        self.assertEqual(system.history((1,))[-1], ("done", "get", (), "is", (8,)))

    def test_inner_layers(self):
        system = System(HIGH)
        system.call("put", (7,))
        for node in ((0, 1), (1,), (), (0, 0)):
            self.assertIsNone(self.swap(system, node, SECOND, certificate_of(SECOND)))
        self.assertEqual(system.call("get", ()), ("is", (7,)))
        self.assertEqual(system.call("put", (8,)), ("ok", ()))
        system.schedule_crash(3)
        self.assertIsNone(system.call("put", (9,)))
        self.assertIs(system.recover(), True)
        self.assertIn(system.call("get", ()), (("is", (8,)), ("is", (9,))))
        for node in tree_nodes(HIGH):
            self.assertEqual(len(system.candidates(node)), 1)

    def test_uncovered(self):
        system = System(LOW)
        system.call("put", (7,))
        # In the states of this certificate the second copy is empty.
        self.assertEqual(self.swap(system, (), FIRST, certificate_of(FIRST)), ((1, (7,)), (1, (7,))))
        # The states of this one have different symbols for the copies, which may stand for the same value.
        self.assertIsNone(self.swap(system, (), FIRST, FIRST_STATES))
        system.call("put", (8,))
        # But this one has not written the second copy.
        found = self.swap(system, (), SECOND, certificate_of(SECOND))
        self.assertEqual(found, ((1, (8,)), (1, (7,))))
        # Nothing has changed.
        self.assertEqual(system.call("get", ()), ("is", (8,)))
        self.assertEqual(system.history((1,)), (("done", "put", (7,), "ok", ()),))
        self.assertEqual(self.swap(system, (), TWICE, certificate_of(TWICE)), ((1, (8,)), (1, (7,))))

    def test_a_child_with_several_candidates(self):
        system = System(LOW)
        system.call("put", (7,))
        system.schedule_crash(2)
        system.call("put", (8,))
        # The second copy may have been written, before the crash; recovery has written it anyway.
        self.assertEqual(system.candidates((1,)), ((1, (7,)), (1, (8,))))
        system.recover()
        self.assertEqual(system.candidates(()), ((1, (7,)), (1, (8,))))
        self.assertEqual(system.candidates((1,)), ((1, (8,)),))
        self.assertIsNone(self.swap(system, (), SECOND, certificate_of(SECOND)))

    def test_certificates_that_cover_some_of_the_tuples(self):
        weak = ((0, 1), CELL[1], CELL[2], (((0, ()),), ((0, ()), (1, (0,)))))
        fill = ((0,), (("fill", 1),), (((("ok", (), 0, ()),),),), (((0, ()),),))
        busy = (fill, (weak,), ((("call", 0, "put", (0,), (("ok", (), 1),)), ("return", "ok", ())),), (UP,))
        idle = (fill, (weak,), ((("return", "ok", ()),),), (UP,))
        full = (("down", ((1, (0,)),), EMPTY), ("up", ((1, (0,)),), EMPTY))
        empty = certificate_of(idle)
        self.assertEqual(empty, (("down", EMPTY, EMPTY), ("up", EMPTY, EMPTY)))
        both = tuple(sorted(empty + full))
        for choice in (0, 1):
            system = System(on_bases(busy), choices=(choice,))
            self.assertIsNone(self.swap(system, (), idle, empty))
            self.assertIsNone(self.swap(system, (), busy, both))
            system.call("fill", (7,))
            self.assertEqual(self.swap(system, (), idle, empty), ((1, (7,)),))
            system.crash()
            system.recover()
            # Whatever the child holds now, by its history it may hold one or the other.
            self.assertEqual(system.base_config((0,)), ((0, ()), (1, (7,)))[choice])
            self.assertEqual(system.candidates((0,)), ((0, ()), (1, (7,))))
            self.assertEqual(self.swap(system, (), idle, empty), ((1, (7,)),))
            self.assertIsNone(self.swap(system, (), idle, both))

    def test_the_first_tuple_of_several(self):
        # Nothing is read in recovery, so children whose calls were interrupted may hold either value.
        both = (("call", 0, "put", (0,), (("ok", (), 1),)), ("call", 1, "put", (0,), (("ok", (), 2),)),
            ("return", "ok", ()))
        layer = (CELL, (CELL, CELL), (GET, both), (UP,))
        self.assertIs(is_layer(layer), True)
        for steps, first, second, expected in (
            ((1,), (7, 8), (7,), (8, 7)), ((2,), (8,), (7, 8), (8, 7)), ((2, 1), (8, 9), (7, 8), (8, 7)),
            ((1, 1), (7, 8, 9), (7,), (8, 7)), ((2, 2), (9,), (7, 8, 9), (9, 7)), ((), (7,), (7,), None),
        ):
            system = System(on_bases(layer))
            system.call("put", (7,))
            for number, step in enumerate(steps):
                system.schedule_crash(step)
                self.assertIsNone(system.call("put", (8 + number,)))
                system.recover()
            self.assertEqual(system.candidates((0,)), tuple((1, (value,)) for value in first))
            self.assertEqual(system.candidates((1,)), tuple((1, (value,)) for value in second))
            found = self.swap(system, (), SECOND, certificate_of(SECOND))
            self.assertEqual(found, None if expected is None else tuple((1, (value,)) for value in expected))

    def test_no_candidates_at_a_child(self):
        # The child says "no", so it has no candidates, and there is no tuple that would have to be covered.
        tree = ("layer", (PING, (PING,), ((("call", 0, "ping", (), (("ok", (), 1),)), ("return", "ok", ())),), (UP,)),
                (on_bases(BAD),))
        system = System(tree)
        with self.assertRaises(ValueError):
            system.call("ping", ())
        self.assertEqual(system.candidates((0,)), ())
        system.recover()
        self.assertIsNone(self.swap(system, (), GOOD, certificate_of(GOOD)))
        # A node without candidates, with children that have some, is covered by nothing.
        self.assertEqual(self.swap(system, (0,), GOOD, certificate_of(GOOD)), ((0, ()),))

    def test_states_with_equal_symbols_and_equal_values(self):
        pair = identity_layer(PAIR)
        found = certificate_of(pair)
        for arguments in ((3, 4), (3, 3)):
            system = System(on_bases(pair))
            system.call("set", arguments)
            self.assertEqual(system.candidates(())[0][0], 1)
            self.assertIsNone(self.swap(system, (), pair, found))

    def test_symbols_replaced_by_the_same_value(self):
        system = System(LOW)
        system.call("put", (7,))
        # A state with different symbols for both copies fits, if its candidates do.
        layer = SECOND
        wide = reference_layers.reachable(layer)[0]
        self.assertIsNone(self.swap(system, (), layer, wide))
        system.call("put", (8,))
        self.assertIsNone(self.swap(system, (), layer, wide))

    def test_lost(self):
        # Two lower cells, of which the layer uses one: what the other one held is LOST in its states.
        get, put = GET, (("call", 0, "put", (0,), (("ok", (), 1),)), ("return", "ok", ()))
        layer = (PAIR_OF_CELLS, (CELL,), (get, put) + (("return", "ok", ()),) * 0, (UP,))
        self.assertIs(is_layer(layer), True)
        certificate = certificate_of(layer)
        self.assertTrue(any(-1 in symbols for state in certificate for _, symbols in state[2]))
        system = System(on_bases(layer))
        self.assertIsNone(self.swap(system, (), layer, certificate))
        for number in (7, 8, 9):
            system.call("put", (number,))
            self.assertIsNone(self.swap(system, (), layer, certificate))
        self.assertEqual(system.candidates(()), ((1, (8, 9)),))
        self.assertEqual(system.call("get", ()), ("is", (9,)))
        # One LOST in each state is not enough for a node that has no such candidate.
        self.assertIsNone(first_uncovered(certificate, [((1, (9,)),)], ((1, (8, 9)), (1, (9, 9)))))
        self.assertIsNotNone(first_uncovered(certificate, [((1, (9,)),)], ((1, (9, 8)),)))

    def test_random_layers(self):
        source = random.Random(111)
        pools = {}
        for layer in random_layers(112, 1500):
            try:
                kind, thing = check_layer(layer, max_states=60)
            except TooManyStates:
                continue
            if kind == "valid":
                pools.setdefault(layer[:2], []).append((layer, thing))
        found = []
        for specs, pool in pools.items():
            pool.append((pool[0][0], reference_layers.reachable(pool[0][0], 150)[0]))
            for layer, thing in pool:
                system = System(on_bases(pool[0][0]), choices=tuple(source.randrange(6) for _ in range(60)))
                for _ in range(8):
                    self.act(source, system, specs[0][1])
                while system.is_down():
                    system.recover()
                children = [len(system.candidates((k,))) for k in range(len(specs[1]))]
                if certificate_holds(layer, thing) and max(children) <= 12 and len(system.candidates(())) <= 30:
                    found.append(self.swap(system, (), layer, thing))
                    self.assertIs(system.is_down(), False)
        self.assertGreater(len([configs for configs in found if configs is None]), 100)

    def test_random_configs_and_candidates(self):
        # What children and nodes may hold is taken at random, whether or not it can come about.
        source = random.Random(114)
        found = []
        for layer in random_layers(115, 1200):
            try:
                kind, thing = check_layer(layer, max_states=60)
            except TooManyStates:
                continue
            if kind == "invalid":
                continue
            for certificate in (thing, reference_layers.reachable(layer, 60)[0]):
                rows = [self.some_configs(source, lower, 3) for lower in layer[1]]
                candidates = self.some_configs(source, layer[0], 12)
                expected = first_uncovered(certificate, rows, candidates)
                self.assertEqual(fitting.first_uncovered(certificate, rows, candidates), expected)
                found.append(expected)
        self.assertGreater(len([configs for configs in found if configs is None]), 100)
        self.assertGreater(len([configs for configs in found if configs is not None]), 100)

    def some_configs(self, source, spec, count):
        configs = [
            (mode, values) for mode, held in enumerate(spec[0]) for values in itertools.product((3, 4), repeat=held)
        ]
        return tuple(sorted(source.sample(configs, min(len(configs), source.randint(1, count)))))

    def act(self, source, system, operations):
        if system.is_down():
            system.recover()
        elif operations and source.randrange(4):
            op, arity = source.choice(operations)
            if source.randrange(3) == 0:
                system.schedule_crash(1, completed=source.random() < 0.5)
            system.call(op, tuple(source.randrange(3) for _ in range(arity)))
        else:
            system.crash()

    def test_swaps_between_layers_that_keep_different_things(self):
        # TWICE, SECOND and FIRST in any order, with calls and crashes between the swaps.
        source = random.Random(113)
        layers = [(layer, certificate_of(layer)) for layer in (TWICE, SECOND, FIRST)]
        layers.append((FIRST, FIRST_STATES))
        found = []
        for _ in range(150):
            layer, _ = source.choice(layers)
            system = System(on_bases(layer))
            for _ in range(source.randint(1, 8)):
                self.act(source, system, CELL[1])
                if not system.is_down() and source.randrange(2):
                    layer, certificate = source.choice(layers)
                    found.append(self.swap(system, (), layer, certificate))
            if not system.is_down():
                answer = system.call("get", ())
                self.assertTrue(answer is None or len(system.candidates(())) > 0)
        self.assertGreater(len([configs for configs in found if configs is None]), 50)
        self.assertGreater(len([configs for configs in found if configs is not None]), 20)


# It keeps the two newest values, of which the newest one can be read.
PAIR_OF_CELLS = (
    (0, 2), (("get", 0), ("put", 1)),
    (
        ((("none", (), 0, ()),), (("ok", (), 1, (0, 0)),)),
        ((("is", (1,), 1, (0, 1)),), (("ok", (), 1, (1, 2)),)),
    ),
    (((0, ()),), ((1, (0, 1)),)),
)


class ErrorsTest(SwapTestCase):
    def test_down(self):
        system = System(LOW)
        system.call("put", (7,))
        system.crash()
        found = certificate_of(SECOND)
        for node in ((), (0,), (9,), None, [0]):
            for layer in (SECOND, BAD, None):
                for certificate in (found, (), None):
                    self.raises(SystemDown, system.swap_layer, node, layer, certificate)
        system.recover()
        self.assertIsNone(system.swap_layer((), SECOND, found))

    def test_unknown_nodes(self):
        system = System(LOW)
        found = certificate_of(SECOND)
        things = [thing for thing in ODD_VALUES if thing != () or not isinstance(thing, tuple)]
        for node in things + [(0,), (1,), (2,), (0, 0), (False,), (True,), [0], nested(29)]:
            for layer, certificate in ((SECOND, found), (BAD, found), (None, None), (SECOND, ())):
                self.raises(UnknownNode, system.swap_layer, node, layer, certificate, node=node)
        self.raises(UnknownNode, System(BASE).swap_layer, (), SECOND, found, node=())

    def test_mismatch(self):
        found = certificate_of(TWICE)
        once = ((0, 1), CELL[1], CELL[2], (((0, ()),), ((0, ()),)))
        others = (
            GOOD, BAD, same_layer(CELL), same_layer(CACHE), (CELL, (CELL, CELL, CELL)) + TWICE[2:],
            (CELL, (CELL, once)) + TWICE[2:], (CELL, (CELL,)) + same_layer(CELL)[2:],
            (renamed(CELL, "x"), (CELL, CELL)) + TWICE[2:], (once, (CELL, CELL)) + TWICE[2:],
            (CELL, (once, CELL)) + TWICE[2:], product_layer((CELL, PING)),
        )
        system = System(LOW)
        for layer in others + ODD_VALUES + (TWICE[:3], TWICE + ((),), list(TWICE), LOW, CELL, (TWICE,)):
            for certificate in (found, (), None):
                self.raises(Mismatch, system.swap_layer, (), layer, certificate, position=0)
        self.assertEqual(system.history(()), ())

    def test_layers_changed_at_any_depth(self):
        def other_kinds(part):
            if isinstance(part, tuple):
                return [list(part), None, part + (part,)]
            return [bool(part), -1 - part, str(part)] if isinstance(part, int) else [part.upper(), None, (part,)]

        system = System(LOW)
        found = certificate_of(TWICE)
        for layer in all_swaps(TWICE, other_kinds):
            self.assertIs(is_layer(layer), False)
            self.raises(Mismatch, system.swap_layer, (), layer, found, position=0)

    def test_invalid_certificates(self):
        system = System(LOW)
        found = certificate_of(SECOND)
        wrong = [found[:at] + found[at + 1:] for at in range(len(found))]
        wrong += [found[::-1], found + found[-1:], list(found), (found,), dict(enumerate(found)),
            (initial_state(SECOND),)]
        for certificate in wrong + list(ODD_VALUES) + [nested(depth) for depth in range(30)]:
            if not certificate_holds(SECOND, certificate):
                self.raises(InvalidCertificate, system.swap_layer, (), SECOND, certificate)
        # Certificates of other layers, and layers that have none.
        self.raises(InvalidCertificate, system.swap_layer, (), SECOND, certificate_of(FIRST))
        self.raises(InvalidCertificate, system.swap_layer, (), ASKEW, found)
        self.raises(InvalidCertificate, system.swap_layer, (), ASKEW, reference_layers.reachable(ASKEW)[0])
        self.assertEqual(system.call("put", (7,)), ("ok", ()))
        self.assertEqual([event[0] for event in system.history((0,))], ["done"])

    def test_changed_certificates(self):
        def other_kinds(part):
            if isinstance(part, tuple):
                return [list(part), None]
            return [bool(part), str(part), part + 9] if isinstance(part, int) else [part.upper(), None]

        system = System(LOW)
        for certificate in all_swaps(certificate_of(TWICE), other_kinds):
            self.raises(InvalidCertificate, system.swap_layer, (), TWICE, certificate)

    def test_an_invalid_certificate_comes_before_what_it_does_not_cover(self):
        system = System(on_bases(FIRST))
        system.call("put", (7,))
        self.raises(InvalidCertificate, system.swap_layer, (), SECOND, certificate_of(SECOND)[1:])
        self.raises(Uncovered, system.swap_layer, (), SECOND, certificate_of(SECOND), configs=((1, (7,)), (0, ())))

    def test_arguments_stay(self):
        thing = [["up"], {"a": [0]}]
        self.raises(InvalidCertificate, System(LOW).swap_layer, (), TWICE, thing)
        self.assertEqual(thing, [["up"], {"a": [0]}])


class LimitsTest(SwapTestCase):
    def test_two_thousand_tuples(self):
        started = time.monotonic()
        # Each child may hold any of several values, as its calls were interrupted again and again.
        cells = tuple(renamed(CELL, end) for end in "abc")
        layer = product_layer(cells)
        found = certificate_of(layer)
        for certificate in (found, reference_layers.reachable(layer, 200)[0]):
            if not certificate_holds(layer, certificate):
                continue
            system = System(on_bases(layer))
            for number in range(11):
                for end in "abc":
                    system.schedule_crash(1)
                    self.assertIsNone(system.call("put" + end, (number,)))
                    system.recover()
            rows = [system.candidates((k,)) for k in range(3)]
            self.assertEqual([len(row) for row in rows], [12, 12, 12])
            self.assertEqual(len(system.candidates(())), 12 ** 3)
            self.assertIsNone(system.swap_layer((), layer, certificate))
        self.assertLess(time.monotonic() - started, 30)

    def test_many_states(self):
        started = time.monotonic()
        layer = product_layer((renamed(CELL, "a"), renamed(CACHE, "b")))
        states, bad = reference_layers.reachable(layer, 600)
        self.assertFalse(bad)
        self.assertEqual(len(states), 570)
        for rounds in (2, 3, 5):
            system = System(on_bases(layer))
            for number in range(rounds):
                for end in "ab":
                    system.schedule_crash(1)
                    self.assertIsNone(system.call("put" + end, (number,)))
                    system.recover()
            self.assertGreaterEqual(len(system.candidates((1,))), 2 * rounds)
            self.assertIsNone(system.swap_layer((), layer, states))
        self.assertEqual(len(system.candidates(())), 96)
        self.assertLess(time.monotonic() - started, 30)

    def test_a_large_tree(self):
        system = System(WIDE)
        layer = WIDE[1]
        for end in "abc":
            system.call("put" + end, (7,))
        self.assertIsNone(self.swap(system, (), layer, certificate_of(layer)))
        self.assertIsNone(self.swap(system, (1,), (renamed(CELL, "b"),) + SECOND[1:],
            certificate_of((renamed(CELL, "b"),) + SECOND[1:])))
        self.assertIsNone(self.swap(system, (1, 0), SECOND, certificate_of(SECOND)))
        self.assertEqual(system.call("getb", ()), ("is", (7,)))
