import itertools
import random
import time
import unittest

from eachheight import combining
from eachheight.certificates import certificate_holds
from eachheight.checking import check_layer
from eachheight.combining import compose_layers, identity_layer, product_layer
from eachheight.errors import DuplicateOperation, Mismatch, TooManyStates
from eachheight.layers import is_layer
from eachheight.runs import crash_results, outcomes_at
from eachheight.specs import is_spec
from tests import reference, reference_layers, reference_systems, reference_trees
from tests.layer_samples import (
    CERTIFIED, GOOD, TWICE, call_and_return, random_layers, random_spec, renamed, same_layer,
)
from tests.samples import CACHE, CELL, PAIR, PING, SILENT, SPECS

UP = ("up",)
# Specs with distinct operation names.
CELLS = tuple(renamed(CELL, end) for end in "abc")
PAIR_B, CACHE_C = renamed(PAIR, "b"), renamed(CACHE, "c")


class CombiningTestCase(unittest.TestCase):
    def has_certificate(self, layer):
        """Check that the layer has a certificate, if it does not have too many states."""
        self.assertIs(is_layer(layer), True)
        self.assertIs(reference_layers.layer(layer), True)
        try:
            kind, thing = check_layer(layer)
        except TooManyStates:
            return False
        self.assertEqual(kind, "valid")
        self.assertIs(certificate_holds(layer, thing), True)
        return True

    def passes_all_calls(self, layer):
        """Check that each program makes the same call below, once, and returns whatever is replied."""
        upper, lowers, _, recovery = layer
        parts = reference_trees.nodes(("layer", layer, tuple(("base", lower) for lower in lowers)))
        for at, (op, arity) in enumerate(upper[1]):
            owners = [k for k, lower in enumerate(lowers) if op in dict(lower[1])]
            self.assertEqual(len(owners), 1)
            replies = {(reply, len(results)) for row in upper[2] for reply, results, _, _ in row[at]}
            for reply, count in replies:
                said = (reply, tuple(range(70, 70 + count)))
                arguments = tuple(range(30, 30 + arity))
                told, found = reference_trees.told(
                    reference_trees.calling(parts, (), op, arguments), lambda *_: said
                )
                self.assertEqual(found, said)
                calls = [event[1:] for event in told if event[0] == "base"]
                self.assertEqual(calls, [((owners[0],), op, arguments)])
        told, _ = reference_trees.told(reference_trees.running(parts, (), recovery, {}), None)
        self.assertEqual(told, [])


class IdentityTest(CombiningTestCase):
    def test_example_of_the_interface(self):
        self.assertIs(identity_layer(PING)[:2] == (PING, (PING,)), True)

    def test_parameters_have_their_names(self):
        self.assertEqual(identity_layer(spec=CELL), identity_layer(CELL))
        self.assertEqual(product_layer(specs=CELLS), product_layer(CELLS))
        self.assertEqual(compose_layers(layer=GOOD, layers=(GOOD,)), compose_layers(GOOD, (GOOD,)))

    def test_defined_in_the_file(self):
        for name in ("identity_layer", "product_layer", "compose_layers"):
            self.assertEqual(getattr(combining, name).__module__, "eachheight.combining")

    def test_samples(self):
        for spec in SPECS:
            layer = identity_layer(spec)
            self.assertEqual(layer[:2], (spec, (spec,)))
            self.assertEqual(repr(identity_layer(spec)), repr(layer))
            self.passes_all_calls(layer)
            self.assertIs(self.has_certificate(layer), True)

    def test_random_specs(self):
        source = random.Random(90)
        found = []
        for _ in range(300):
            spec = random_spec(source)
            layer = identity_layer(spec)
            self.assertEqual(layer[:2], (spec, (spec,)))
            self.passes_all_calls(layer)
            found.append(self.has_certificate(layer))
        self.assertGreater(found.count(True), 250)

    def test_without_operations(self):
        layer = identity_layer(SILENT)
        self.assertEqual(layer[:3], (SILENT, (SILENT,), ()))
        self.assertIs(self.has_certificate(layer), True)

    def test_many_replies(self):
        # More replies than a program may have instructions: six modes with three each.
        cases = tuple(
            (tuple((letter + "abcdef"[mode], (), (mode + 1) % 6, ()) for letter in "pqr"),) for mode in range(6)
        )
        spec = ((0,) * 6, (("ask", 0),), cases, tuple(((mode, ()),) for mode in range(6)))
        self.assertIs(is_spec(spec), True)
        layer = identity_layer(spec)
        self.passes_all_calls(layer)
        self.assertIs(self.has_certificate(layer), True)


class ProductTest(CombiningTestCase):
    def test_examples_of_the_interface(self):
        self.assertEqual(product_layer((CELL, PING))[0][0], (0, 1))
        with self.assertRaises(DuplicateOperation) as caught:
            product_layer((PING, PING))
        self.assertEqual(caught.exception.name, "ping")

    def is_product(self, specs):
        """Check all of the product spec by what it does, and its layer."""
        layer = product_layer(specs)
        self.assertEqual(repr(product_layer(specs)), repr(layer))
        upper = layer[0]
        self.assertEqual(layer[1], specs)
        self.assertIs(is_spec(upper), True)
        self.assertIs(reference.spec(upper), True)
        rows = list(itertools.product(*[range(len(spec[0])) for spec in specs]))
        self.assertEqual(upper[0], tuple(sum(spec[0][mode] for spec, mode in zip(specs, row)) for row in rows))
        self.assertEqual(upper[1], tuple(sorted(operation for spec in specs for operation in spec[1])))
        for row in rows:
            self.is_product_in(specs, upper, rows, row)
        self.passes_all_calls(layer)
        return layer

    def is_product_in(self, specs, upper, rows, row):
        """Check one mode of the product, with distinct values and arguments."""
        numbers = iter(range(100, 200))
        configs = [(mode, tuple(next(numbers) for _ in range(spec[0][mode]))) for spec, mode in zip(specs, row)]

        def joined(parts):
            mode = rows.index(tuple(mode for mode, _ in parts))
            return (mode, tuple(value for _, values in parts for value in values))

        whole = joined(configs)
        for op, arity in upper[1]:
            arguments = (7, 8)[:arity]
            (k,) = [k for k, spec in enumerate(specs) if op in dict(spec[1])]
            expected = {
                (reply, results, joined(configs[:k] + [after] + configs[k + 1:]))
                for reply, results, after in outcomes_at(specs[k], configs[k], op, arguments)
            }
            self.assertEqual(set(outcomes_at(upper, whole, op, arguments)), expected)
            index = [name for name, _ in upper[1]].index(op)
            # No outcome is there twice: values are distinct, so each one is written in one way only.
            self.assertEqual(len(upper[2][whole[0]][index]), len(expected))
        expected = {
            joined(choice)
            for choice in itertools.product(*[crash_results(spec, config) for spec, config in zip(specs, configs)])
        }
        self.assertEqual(set(crash_results(upper, whole)), expected)
        self.assertEqual(len(upper[3][whole[0]]), len(expected))

    def test_one_spec(self):
        for spec in SPECS:
            layer = self.is_product((spec,))
            self.assertEqual(layer[:2], (spec, (spec,)))
            self.assertIs(self.has_certificate(layer), True)

    def test_two_specs(self):
        for specs in ((CELL, PING), (PING, CELL), (CELL, SILENT), (SILENT, CELL), (CELLS[1], CELLS[0]),
                      (CELL, PAIR_B), (PAIR_B, CELL), (CACHE, PAIR_B), (CACHE_C, CACHE), (PAIR_B, PAIR)):
            self.is_product(specs)
            self.has_certificate(product_layer(specs))

    def test_three_specs(self):
        for specs in ((CELL, PING, SILENT), CELLS, CELLS[::-1], (CELLS[0], PAIR_B, CACHE_C), (PAIR_B, PING, CELL)):
            self.is_product(specs)
            self.has_certificate(product_layer(specs))
        self.assertIs(self.has_certificate(product_layer((CELL, PING, SILENT))), True)

    def test_what_it_is(self):
        upper, lowers, programs, recovery = product_layer((CELL, PING))
        # Modes (0, 0) and (1, 0).
        self.assertEqual(upper, (
            (0, 1), (("get", 0), ("ping", 0), ("put", 1)),
            (
                ((("none", (), 0, ()),), (("ok", (), 0, ()),), (("ok", (), 1, (0,)),)),
                ((("is", (0,), 1, (0,)),), (("ok", (), 1, (0,)),), (("ok", (), 1, (1,)),)),
            ),
            (((0, ()),), ((1, (0,)),)),
        ))
        self.assertEqual((lowers, len(programs), recovery), ((CELL, PING), 3, (UP,)))
        self.assertEqual([program[0][1:3] for program in programs], [(0, "get"), (1, "ping"), (0, "put")])
        upper = product_layer(CELLS[:2])[0]
        # Modes (0, 0), (0, 1), (1, 0), (1, 1), and behind the values comes the argument.
        self.assertEqual(upper[0], (0, 1, 1, 2))
        self.assertEqual(upper[1], (("geta", 0), ("getb", 0), ("puta", 1), ("putb", 1)))
        self.assertEqual(upper[2][3], (
            (("is", (0,), 3, (0, 1)),), (("is", (1,), 3, (0, 1)),), (("ok", (), 3, (2, 1)),), (("ok", (), 3, (0, 2)),),
        ))
        self.assertEqual(upper[2][1][2], (("ok", (), 3, (1, 0)),))

    def test_a_crash_applies_one_result_of_each(self):
        upper = product_layer((PAIR, CACHE_C))[0]
        mode = 1 * 3 + 2
        expected = {
            (3 * low + high, kept + tuple(2 + slot for slot in more))
            for low, kept in PAIR[3][1] for high, more in CACHE_C[3][2]
        }
        self.assertEqual(set(upper[3][mode]), expected)
        self.assertEqual(len(upper[3][mode]), 12)

    def test_duplicate_operations(self):
        def names(*operations):
            count = len(operations)
            return ((0,), tuple((name, 0) for name in operations), (((("ok", (), 0, ()),),) * count,), (((0, ()),),))

        for specs, name in (
            ((CELL, CELL), "get"), ((CELL, CACHE), "get"), ((CACHE, CELL), "get"), ((CELL, PING, CELL), "get"),
            ((PING, CELL, CELL), "get"), ((names("b", "c"), names("a", "c"), names("a")), "a"),
            ((names("a", "d"), names("b", "d"), names("b")), "b"), ((names("c"), names("b", "c"), names("b")), "b"),
            ((names("x"), names("x"), names("x")), "x"), ((names("a", "b"), names("c", "d"), names("d")), "d"),
        ):
            self.assertTrue(all(map(is_spec, specs)))
            with self.assertRaises(DuplicateOperation) as caught:
                product_layer(specs)
            self.assertEqual(caught.exception.name, name)

    def test_duplicates_with_another_arity(self):
        other = ((0,), (("get", 2),), (((("ok", (), 0, ()),),),), (((0, ()),),))
        with self.assertRaises(DuplicateOperation) as caught:
            product_layer((CELL, other))
        self.assertEqual(caught.exception.name, "get")

    def test_random_specs(self):
        source = random.Random(91)
        found = []
        for _ in range(150):
            count = source.choice((1, 2, 2, 3))
            specs = tuple(renamed(random_spec(source), end) for end in "abc"[:count])
            if len(list(itertools.product(*[spec[0] for spec in specs]))) <= 40:
                self.is_product(specs)
                found.append(self.has_certificate(product_layer(specs)))
        self.assertGreater(found.count(True), 60)

    def test_a_product_at_the_limits(self):
        started = time.monotonic()

        def spec(slots, end):
            """Return a spec with four crash results and three outcomes wherever it holds a value."""
            def kept(mode, shift, arity=0):
                return tuple((at + shift) % (held + arity) for at in range(slots[mode])) if held + arity else ()

            cases, crashes = [], []
            for held in slots:
                free = [mode for mode, count in enumerate(slots) if held or not count]
                row = []
                for arity in (0, 1, 2, 2, 2):
                    reachable = [mode for mode, count in enumerate(slots) if held + arity or not count]
                    outcomes = {(reply, (), mode, kept(mode, shift, arity)) for shift, (reply, mode) in enumerate(
                        zip("pqr", itertools.cycle(reachable)))}
                    row.append(tuple(sorted(outcomes)))
                cases.append(tuple(row))
                crashes.append({(mode, kept(mode, 0)) for mode in free if slots[mode] <= held})
            names = tuple((name + end, arity) for name, arity in zip("vwxyz", (0, 1, 2, 2, 2)))
            closed = [set(entry) for entry in crashes]
            while not reference.transitive(closed):
                for entry in closed:
                    entry |= {(last, tuple(more[slot] for slot in least))
                              for after, more in list(entry) for last, least in closed[after]}
            return (slots, names, tuple(cases), tuple(tuple(sorted(entry)) for entry in closed))

        specs = (spec((0, 1, 2, 3, 4), "a"), spec((0, 2, 3, 4), "b"), spec((0, 4), "c"))
        self.assertTrue(all(map(is_spec, specs)))
        layer = self.is_product(specs)
        self.assertEqual((len(layer[0][0]), max(layer[0][0]), len(layer[0][1])), (40, 12, 15))
        self.assertEqual(max(len(entry) for entry in layer[0][3]), 40)
        self.assertIs(is_layer(layer), True)
        self.has_certificate(layer)
        self.assertLess(time.monotonic() - started, 60)


class ComposeTestCase(CombiningTestCase):
    def is_composed(self, layer, layers, seed=1, rounds=60):
        """Check that the composed layer does what the outer one does on top of the inner ones."""
        whole = compose_layers(layer, layers)
        self.assertEqual(repr(compose_layers(layer, layers)), repr(whole))
        self.assertIs(is_layer(whole), True)
        self.assertIs(reference_layers.layer(whole), True)
        self.assertEqual(whole[0], layer[0])
        self.assertEqual(whole[1], tuple(lower for inner in layers for lower in inner[1]))
        bases = [tuple(("base", lower) for lower in inner[1]) for inner in layers]
        children = tuple(("layer", inner, below) for inner, below in zip(layers, bases))
        source = random.Random(seed)
        for _ in range(3):
            choices = tuple(source.randrange(6) for _ in range(300))
            nested = reference_systems.System(("layer", layer, children), choices)
            flat = reference_systems.System(("layer", whole, sum(bases, ())), choices)
            for _ in range(rounds):
                self.step_alike(source, layer[0], nested, flat)
        return whole

    def step_alike(self, source, upper, nested, flat):
        """Take the same step in both systems."""
        if source.randrange(3) == 0:
            step, completed = source.randint(1, 6), source.random() < 0.5
            nested.schedule_crash(step, completed)
            flat.schedule_crash(step, completed)
        if nested.is_down or not upper[1]:
            if not nested.is_down:
                nested.crash()
                flat.crash()
            found = [nested.recover(), flat.recover()]
        else:
            op, arity = source.choice(upper[1])
            arguments = tuple(source.randrange(5) for _ in range(arity))
            found = [nested.call(op, arguments), flat.call(op, arguments)]
        self.assertEqual(found[0], found[1])
        self.assertEqual(nested.log, flat.log)
        self.assertEqual(nested.is_down, flat.is_down)
        self.assertEqual(nested.histories[()], flat.histories[()])


class ComposeTest(ComposeTestCase):
    def test_example_of_the_interface(self):
        self.assertIs(compose_layers(GOOD, (GOOD,))[:2] == (PING, (PING,)), True)

    def test_mismatch(self):
        for layers, position in (
            ((GOOD, TWICE), 0), ((TWICE, GOOD), 1), ((GOOD, GOOD), 0), ((same_layer(CACHE), same_layer(CACHE)), 0),
            ((TWICE, same_layer(PAIR)), 1),
        ):
            with self.assertRaises(Mismatch) as caught:
                compose_layers(TWICE, layers)
            self.assertEqual(caught.exception.position, position)
        # The operations are the same, but a crash forgets.
        once = ((0, 1), CELL[1], CELL[2], (((0, ()),), ((0, ()),)))
        outer = product_layer(CELLS)
        inner = tuple(map(same_layer, CELLS))
        other = same_layer(renamed(once, "b"))
        with self.assertRaises(Mismatch) as caught:
            compose_layers(outer, (inner[0], other, inner[1]))
        self.assertEqual(caught.exception.position, 1)
        with self.assertRaises(Mismatch) as caught:
            compose_layers(outer, (inner[0], inner[1], same_layer(CELL)))
        self.assertEqual(caught.exception.position, 2)

    def test_identities(self):
        for layer in CERTIFIED:
            whole = self.is_composed(layer, tuple(map(identity_layer, layer[1])))
            self.assertIs(self.has_certificate(whole), True)
            self.assertIs(self.has_certificate(self.is_composed(identity_layer(layer[0]), (layer,))), True)

    def test_calls_in_recovery_everywhere(self):
        whole = self.is_composed(TWICE, (TWICE, TWICE))
        self.assertIs(self.has_certificate(whole), True)
        self.assertEqual(whole[1], (CELL,) * 4)
        # First what the inner layers repair, then what the outer one does, on top of them.
        parts = reference_trees.nodes(("layer", whole, (("base", CELL),) * 4))
        told, _ = reference_trees.told(
            reference_trees.running(parts, (), whole[3], {}),
            lambda _, op, arguments: ("is", (9,)) if op == "get" else ("ok", ()),
        )
        calls = [(event[1], event[2]) for event in told if event[0] == "base"]
        self.assertEqual(calls, [
            ((0,), "get"), ((1,), "put"), ((2,), "get"), ((3,), "put"), ((0,), "get"), ((2,), "put"), ((3,), "put"),
        ])

    def test_several_levels(self):
        two = compose_layers(TWICE, (TWICE, identity_layer(CELL)))
        four = self.is_composed(TWICE, (two, compose_layers(two, (TWICE, TWICE, TWICE))))
        self.assertEqual(four[1], (CELL,) * 9)
        self.assertIs(self.has_certificate(four), True)
        # Longer programs than sixteen instructions, and used like any other layer.
        self.assertGreater(len(four[3]), 60)
        self.is_composed(two, (four, TWICE, identity_layer(CELL)), rounds=20)
        # In whatever order they are composed, it is the same in the end.
        low = compose_layers(compose_layers(TWICE, (TWICE, TWICE)), (GOOD_CELL, TWICE, TWICE, GOOD_CELL))
        sides = (compose_layers(TWICE, (GOOD_CELL, TWICE)), compose_layers(TWICE, (TWICE, GOOD_CELL)))
        high = compose_layers(TWICE, sides)
        self.assertEqual(low[:2], high[:2])
        self.assertIs(self.has_certificate(low), True)

    def test_products(self):
        outer = product_layer(CELLS)
        inner = []
        for end in "abc":
            upper = renamed(CELL, end)
            inner.append((upper, (CELL, CELL)) + TWICE[2:])
        self.assertTrue(all(map(is_layer, inner)))
        whole = self.is_composed(outer, tuple(inner))
        self.assertEqual(whole[1], (CELL,) * 6)
        self.has_certificate(whole)
        mixed = product_layer((CELL, PAIR_B, PING))
        self.is_composed(mixed, (TWICE, same_layer(PAIR_B), GOOD))

    def test_without_operations(self):
        outer = (SILENT, (CELL, SILENT), (), TWICE[3][:1] + (("jump", 2), UP))
        self.assertIs(is_layer(outer), True)
        whole = self.is_composed(outer, (TWICE, same_layer(SILENT)))
        self.assertEqual(whole[2], ())
        self.assertIs(self.has_certificate(whole), True)

    def test_moves_and_equal_variables(self):
        spec = ((0, 2), (("both", 0), ("set", 2)),
                (((("none", (), 0, ()),), (("ok", (), 1, (0, 1)),)),
                 ((("are", (0, 1), 1, (0, 1)),), (("ok", (), 1, (2, 3)),))),
                (((0, ()),), ((1, (0, 1)),)))
        # Each way down and each way up exchanges both values.
        program = (
            ("move", (1, 0), (0, 1)), ("call", 0, "set", (0, 1), (("ok", (), 2),)), ("return", "ok", ()),
        )
        both = (
            ("call", 0, "both", (), (("are", (1, 0), 1), ("none", (), 2))), ("return", "are", (0, 1)),
            ("return", "none", ()),
        )
        layer = (spec, (spec,), (both, program), (UP,))
        self.assertIs(self.has_certificate(layer), True)
        whole = self.is_composed(layer, (layer,))
        self.assertIs(self.has_certificate(whole), True)
        self.assertIs(self.has_certificate(self.is_composed(whole, (layer,))), True)
        # The same value as both arguments, and returned twice.
        twin = (spec, (CELL,), (
            (("call", 0, "get", (), (("is", (4,), 1), ("none", (), 2))), ("return", "are", (4, 4)),
            ("return", "none", ())),
            (("call", 0, "put", (0,), (("ok", (), 1),)), ("return", "ok", ())),
        ), (UP,))
        copied = (CELL, (spec,), (
            (("call", 0, "both", (), (("are", (8, 9), 1), ("none", (), 2))), ("return", "is", (9,)),
            ("return", "none", ())),
            (("call", 0, "set", (0, 0), (("ok", (), 1),)), ("return", "ok", ())),
        ), (UP,))
        self.assertIs(is_layer(twin), True)
        self.assertIs(self.has_certificate(copied), True)
        self.is_composed(copied, (layer,))

    def test_large_variables(self):
        huge = 10 ** 39
        get = (("call", 0, "get", (), (("is", (huge,), 1), ("none", (), 2))), ("return", "is", (huge,)),
            ("return", "none", ()))
        put = (("move", (huge, huge - 1), (0, 0)), ("call", 0, "put", (huge - 1,), (("ok", (), 2),)),
            ("return", "ok", ()))
        layer = (CELL, (CELL,), (get, put), (UP,))
        self.assertIs(self.has_certificate(layer), True)
        whole = layer
        for _ in range(3):
            whole = self.is_composed(layer, (whole,))
            self.assertIs(self.has_certificate(whole), True)
        self.assertNotIn("000000", repr(whole))

    def test_random_layers(self):
        source = random.Random(92)
        good = self.certified_layers(93, 1500)
        self.assertGreater(len(good), 300)
        by_upper = {}
        for layer in good:
            by_upper.setdefault(layer[0], []).append(layer)
        several = 0
        for number, layer in enumerate(good[:500]):
            inner = tuple(source.choice(by_upper.get(lower, []) + [identity_layer(lower)]) for lower in layer[1])
            several += any(part != identity_layer(part[0]) for part in inner)
            whole = self.is_composed(layer, inner, number, 12)
            self.has_certificate(whole)
        self.assertGreater(several, 60)

    def certified_layers(self, seed, count):
        good = []
        for layer in random_layers(seed, count):
            try:
                if check_layer(layer, max_states=60)[0] == "valid":
                    good.append(layer)
            except TooManyStates:
                pass
        return good


GOOD_CELL = same_layer(CELL)


class PlacesThatAreNeverReachedTest(ComposeTestCase):
    # In mode 1, where nothing leads, it replies "odd" or "ok" with what it holds.
    ODD = (
        (0, 1), (("ping", 0), ("set", 1)),
        (
            ((("ok", (), 0, ()),), (("done", (), 0, ()),)),
            ((("odd", (0,), 1, (0,)),), (("done", (), 1, (0,)),)),
        ),
        (((0, ()),), ((1, (0,)),)),
    )

    def inner(self, *ends):
        """Return a layer of PING on ODD that returns something else where ODD says "odd"."""
        program = (("call", 0, "ping", (), (("odd", (3,), 2), ("ok", (), 1))), ("return", "ok", ())) + ends
        layer = (PING, (self.ODD,), (program,), (UP,))
        self.assertIs(is_layer(layer), True)
        self.assertIs(self.has_certificate(layer), True)
        return layer

    def test_replies_without_a_branch(self):
        for ends in ((("return", "never", ()),), (("return", "never", (3, 3)),), (("return", "ok", (3,)),),
                     (("return", "ok", (3, 3)),), (("return", "ok", ()), ("return", "ok", (3,)))):
            inner = self.inner(*ends)
            whole = self.is_composed(GOOD, (inner,))
            self.assertIs(self.has_certificate(whole), True)
            self.is_composed(identity_layer(PING), (inner,))
            self.is_composed(GOOD, (compose_layers(GOOD, (inner,)),))

    def test_in_recovery(self):
        inner = self.inner(("return", "never", (3, 3)))
        outer = GOOD[:3] + ((("call", 0, "ping", (), (("ok", (), 1),)), UP),)
        whole = self.is_composed(outer, (inner,))
        self.assertIs(self.has_certificate(whole), True)
        self.assertEqual({instruction[0] for instruction in whole[3]}, {"call", "jump", "up"})

    def test_with_more_or_fewer_results_than_outputs(self):
        # The outer program expects one result of "is"; at such a place there are none, or two.
        for inputs in ((), (0, 0)):
            get = (
                ("call", 0, "get", (), (("is", (0,), 2), ("none", (), 1))), ("return", "none", ()),
                ("call", 1, "ping", (), (("odd", (5,), 4), ("ok", (), 3))), ("return", "is", (0,)),
                ("return", "is", inputs),
            )
            layer = (CELL, (CELL, self.ODD), (get, call_and_return(CELL, "put")), (UP,))
            self.assertIs(is_layer(layer), True)
            self.assertIs(self.has_certificate(layer), True)
            for outer in (TWICE, identity_layer(CELL)):
                inner = (layer,) + (identity_layer(CELL),) * (len(outer[1]) - 1)
                self.assertIs(self.has_certificate(self.is_composed(outer, inner)), True)

    def test_outer_programs_without_branches(self):
        # The outer program does not expect "none" behind its own "put".
        get = TWICE[2][0]
        put = (
            ("call", 0, "put", (0,), (("ok", (), 1),)),
            ("call", 0, "get", (), (("is", (1,), 2),)),
            ("return", "ok", ()),
        )
        outer = (CELL, (CELL,), (get, put), (UP,))
        self.assertIs(self.has_certificate(outer), True)
        self.assertIs(self.has_certificate(self.is_composed(outer, (TWICE,))), True)
        self.assertIs(self.has_certificate(self.is_composed(outer, (outer,))), True)

    def test_instructions_that_no_path_reaches(self):
        program = (
            ("jump", 3), ("call", 0, "ping", (), (("ok", (), 2),)), ("return", "no", (7, 8)),
            ("call", 0, "ping", (), (("ok", (), 5),)), ("move", (1, 2), (8, 9)), ("return", "ok", ()),
        )
        layer = (PING, (PING,), (program,), (("jump", 2), ("move", (4,), (5,)), UP))
        self.assertIs(self.has_certificate(layer), True)
        self.assertIs(self.has_certificate(self.is_composed(layer, (layer,))), True)
        self.assertIs(self.has_certificate(self.is_composed(GOOD, (layer,))), True)
        self.assertIs(self.has_certificate(self.is_composed(layer, (GOOD,))), True)

    def test_a_call_without_branches_in_the_inner_layer(self):
        program = (
            ("call", 0, "ping", (), (("odd", (3,), 1), ("ok", (), 2))), ("call", 0, "set", (3,), ()),
            ("return", "ok", ()),
        )
        layer = (PING, (self.ODD,), (program,), (UP,))
        self.assertIs(self.has_certificate(layer), True)
        self.assertIs(self.has_certificate(self.is_composed(GOOD, (layer,))), True)


class LimitsTest(ComposeTestCase):
    def test_sixteen_instructions_in_each_program(self):
        started = time.monotonic()
        calls = tuple(("call", at % 2, "ping", (), (("ok", (), at + 1),)) for at in range(15))
        layer = (PING, (PING, PING), (calls + (("return", "ok", ()),),), calls + (UP,))
        self.assertIs(self.has_certificate(layer), True)
        two = self.is_composed(layer, (layer, layer), rounds=10)
        self.assertIs(self.has_certificate(two), True)
        three = compose_layers(two, (layer,) * 4)
        self.assertIs(is_layer(three), True)
        self.assertEqual(sum(instruction[0] == "call" for instruction in three[2][0]), 15 ** 3)
        self.assertLess(time.monotonic() - started, 60)

    def test_many_lower_specs_with_several_crash_results(self):
        started = time.monotonic()
        # A cell that a crash may empty on cells that a crash may empty: nine of them at the bottom.
        crashes = (((0, ()),), ((0, ()), (1, (0,))))
        weak = CELL[:3] + (crashes,)
        get, put = TWICE[2]
        three = (weak, (weak, weak, weak), (get, put), (UP,))
        self.assertIs(is_layer(three), True)
        self.assertIs(self.has_certificate(three), True)
        nine = compose_layers(three, (three, three, three))
        self.has_certificate(nine)
        self.assertLess(time.monotonic() - started, 60)
