import itertools
import random
import time
import unittest

from eachheight import trees
from eachheight.combining import identity_layer
from eachheight.trees import is_tree, spec_at, tree_nodes
from tests import reference, reference_layers, reference_trees
from tests.layer_samples import ASKEW, BAD, FIVE, GOOD, LAYERS, TWICE, random_layers, renamed, same_layer
from tests.samples import CACHE, CELL, ODD_VALUES, PAIR, PING, SILENT, SPECS, all_swaps, nested
from tests.tree_samples import BASE, HIGH, LOW, MIXED, TREE, TREES, WIDE, on_bases, twice


def reference_tree(thing):
    """Return whether a value is a tree, by point 16 read from left to right."""
    if type(thing) is not tuple or not thing:
        return False
    if thing[0] == "base":
        return len(thing) == 2 and reference.spec(thing[1])
    if thing[0] != "layer" or len(thing) != 3 or not reference_layers.layer(thing[1]) or type(thing[2]) is not tuple:
        return False
    if len(thing[2]) != len(thing[1][1]) or not all(map(reference_tree, thing[2])):
        return False
    return all(reference_trees.spec_of(child) == lower for child, lower in zip(thing[2], thing[1][1]))


class TreeTestCase(unittest.TestCase):
    def tree(self, thing):
        found = is_tree(thing)
        self.assertIs(type(found), bool)
        self.assertIs(is_tree(thing), found)
        self.assertEqual(found, reference_tree(thing), thing)
        return found

    def good(self, *things):
        for thing in things:
            self.assertTrue(self.tree(thing), thing)

    def wrong(self, *things):
        for thing in things:
            self.assertFalse(self.tree(thing), thing)


class TreeTest(TreeTestCase):
    def test_example_of_the_interface(self):
        self.assertEqual([is_tree(TREE), is_tree(GOOD)], [True, False])

    def test_parameters_have_their_names(self):
        self.assertIs(is_tree(thing=TREE), True)
        self.assertEqual(tree_nodes(tree=TREE), ((), (0,)))
        self.assertEqual(spec_at(tree=TREE, node=(0,)), PING)

    def test_defined_in_the_file(self):
        for name in ("is_tree", "tree_nodes", "spec_at"):
            self.assertEqual(getattr(trees, name).__module__, "eachheight.trees")

    def test_samples(self):
        self.good(*TREES)
        self.good(*[("base", spec) for spec in SPECS])
        self.good(*[on_bases(layer) for layer in LAYERS])
        # Trees need no certificates.
        self.good(on_bases(BAD), twice(on_bases(ASKEW), LOW))

    def test_a_wrong_child(self):
        others = [tree for tree in TREES if tree[1] != CELL and tree[1][0] != CELL]
        self.wrong(*[twice(other, BASE) for other in others], *[twice(LOW, other) for other in others])
        self.wrong(*[twice(BASE, twice(LOW, other)) for other in others])
        # Another spec of the same form, and the same one with other crashes.
        once = ((0, 1), CELL[1], CELL[2], (((0, ()),), ((0, ()),)))
        self.wrong(twice(BASE, ("base", once)), twice(BASE, on_bases(same_layer(once))))
        self.wrong(twice(BASE, ("base", renamed(CELL, "x"))))
        # The layer is there, but its tree is not; the spec, the layer or its parts alone.
        for child in (CELL, TWICE, (CELL,), ("base",), ("layer", TWICE), ("layer", TWICE, ()), ("base", TWICE)):
            self.wrong(twice(BASE, child), twice(child, BASE))

    def test_children_in_another_order(self):
        layer, children = MIXED[1:]
        for row in itertools.permutations(children):
            self.assertEqual(self.tree(("layer", layer, row)), row == children)

    def test_too_few_and_too_many_children(self):
        for tree in (TREE, LOW, HIGH, WIDE, MIXED):
            _, layer, children = tree
            self.wrong(("layer", layer, children[:-1]), ("layer", layer, children[1:]), ("layer", layer, ()))
            self.wrong(("layer", layer, children + children[:1]), ("layer", layer, children * 2))
        self.wrong(("base", CELL, ()), ("base", CELL, (BASE,)), ("base", PING, (("base", PING),)))

    def test_other_words(self):
        for word in ("Base", "layers", "", "bas", "tree", None, 0, True, (), ["base"]):
            self.wrong((word, CELL), (word,) + LOW[1:])
        self.wrong(("layer", CELL), ("base",) + LOW[1:], ("layer", CELL, ()), ("base", TWICE))

    def test_other_values(self):
        self.wrong(*ODD_VALUES)
        self.wrong(*[nested(depth) for depth in range(30)])
        self.wrong(*SPECS, *LAYERS, list(TREE), list(BASE), {"base": CELL}, (TREE,), TREE * 2, BASE + BASE)
        for thing in ODD_VALUES:
            self.wrong(("base", thing), ("layer", thing, ()), ("layer", GOOD, thing), ("layer", GOOD, (thing,)))
            self.wrong(twice(BASE, thing), twice(LOW, twice(thing, BASE)), TREE + (thing,), (thing,) + TREE)

    def test_bools(self):
        spec = ((False,),) + PING[1:]
        self.assertEqual(spec, PING)
        self.wrong(("base", spec), ("layer", GOOD, (("base", spec),)), ("layer", (spec,) + GOOD[1:], TREE[2]))
        self.wrong(on_bases((PING, (spec,)) + GOOD[2:]))

    def test_other_kinds_at_any_depth(self):
        def other_kinds(part):
            if isinstance(part, tuple):
                return [list(part), dict(enumerate(part)), None, (part,)]
            if isinstance(part, int):
                return [bool(part), str(part), None, -1 - part]
            return [part.upper(), (part,), [part], None]

        for tree in (TREE, BASE, LOW, twice(LOW, BASE)):
            for thing in all_swaps(tree, other_kinds):
                self.assertIs(is_tree(thing), False, thing)

    def test_parts_removed_repeated_or_added_at_any_depth(self):
        extras = ((), 0, None, BASE, ("base", PING))

        def other_parts(part):
            if not isinstance(part, tuple):
                return []
            copies = [part[:at] + part[at + 1:] for at in range(len(part))]
            copies += [part[:at] + part[at:at + 1] + part[at:] for at in range(len(part))]
            return copies + [part[:at] + (extra,) + part[at:] for extra in extras for at in (0, len(part))]

        found = []
        for tree in (TREE, BASE, LOW, twice(LOW, BASE)):
            for thing in all_swaps(tree, other_parts):
                found.append(self.tree(thing))
        self.assertGreater(found.count(False), 1000)

    def test_random_layers(self):
        source = random.Random(95)
        found = []
        pool = [identity_layer(spec) for spec in SPECS] + random_layers(96, 60)
        for _ in range(600):
            layer = source.choice(pool)
            children = []
            for lower in layer[1]:
                fits = [on_bases(other) for other in pool if other[0] == lower] + [("base", lower)]
                children.append(source.choice(fits if source.randrange(5) else [on_bases(part) for part in pool]))
            found.append(self.tree(("layer", layer, tuple(children))))
        self.assertGreater(found.count(True), 200)
        self.assertGreater(found.count(False), 50)

    def test_arguments_stay(self):
        thing = ("layer", [GOOD], {"a": [0]})
        self.assertFalse(is_tree(thing))
        self.assertEqual(thing, ("layer", [GOOD], {"a": [0]}))


class NodesTest(unittest.TestCase):
    def test_examples_of_the_interface(self):
        self.assertEqual(tree_nodes(TREE), ((), (0,)))
        self.assertIs(spec_at(TREE, (0,)) == PING, True)

    def test_all_nodes(self):
        self.assertEqual(tree_nodes(BASE), ((),))
        self.assertEqual(tree_nodes(LOW), ((), (0,), (1,)))
        self.assertEqual(tree_nodes(twice(LOW, BASE)), ((), (0,), (0, 0), (0, 1), (1,)))
        self.assertEqual(tree_nodes(on_bases(FIVE)), ((), (0,), (1,), (2,), (3,), (4,)))
        for tree in TREES:
            found = tree_nodes(tree)
            self.assertIs(type(found), tuple)
            self.assertEqual(found, tuple(sorted(reference_trees.nodes(tree))))
            self.assertEqual(tree_nodes(tree), found)
        self.assertEqual([len(tree_nodes(tree)) for tree in (HIGH, WIDE)], [13, 16])
        self.assertEqual(max(map(len, tree_nodes(HIGH))), 3)

    def test_more_than_ten_children(self):
        layer = (SILENT, (PING,) * 12, (), (("up",),))
        self.assertIs(is_tree(on_bases(layer)), True)
        self.assertEqual(tree_nodes(on_bases(layer)), ((),) + tuple((k,) for k in range(12)))

    def test_specs(self):
        for tree in TREES:
            for node, part in reference_trees.nodes(tree).items():
                self.assertEqual(spec_at(tree, node), reference_trees.spec_of(part))
        self.assertEqual(spec_at(BASE, ()), CELL)
        self.assertEqual(spec_at(MIXED, ()), MIXED[1][0])
        self.assertEqual([spec_at(MIXED, (k,)) for k in range(3)], [CELL, renamed(PAIR, "b"), PING])
        self.assertEqual(spec_at(MIXED, (0, 1)), CELL)
        self.assertEqual(spec_at(on_bases(same_layer(CACHE)), (0,)), CACHE)


class LimitsTest(TreeTestCase):
    def test_many_levels(self):
        started = time.monotonic()
        tree = ("base", SILENT)
        layer = identity_layer(SILENT)
        for height in range(1, 10):
            tree = ("layer", layer, (tree,))
            self.assertIs(is_tree(tree), True)
            self.assertEqual(len(tree_nodes(tree)), height + 1)
        self.assertLess(time.monotonic() - started, 30)

    def test_many_nodes(self):
        started = time.monotonic()
        layer = (SILENT, (SILENT,) * 12, (), (("up",),))
        low = on_bases(layer)
        tree = ("layer", layer, (low,) * 12)
        self.assertIs(is_tree(tree), True)
        self.assertEqual(len(tree_nodes(tree)), 157)
        self.assertIs(is_tree(("layer", layer, (low,) * 11 + (("layer", layer, (("base", SILENT),) * 11 + (BASE,)),))),
            False)
        self.assertLess(time.monotonic() - started, 30)

    def test_large_values(self):
        for thing in ((BASE,) * 2000, ("base",) * 29990, "a" * 8000, [TREE] * 900, ("layer", GOOD, (BASE,) * 1400),
                      {at: BASE for at in range(1400)}, ("layer", GOOD, "a" * 8000), ("base", 10 ** 39)):
            self.assertIs(is_tree(thing), False)
