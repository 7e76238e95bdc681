"""Trees that several tests use."""

from eachheight.combining import identity_layer, product_layer
from tests.layer_samples import GOOD, TWICE, renamed, same_layer
from tests.samples import CACHE, CELL, PAIR, PING, SILENT

TREE = ("layer", GOOD, (("base", PING),))
BASE = ("base", CELL)


def on_bases(layer):
    """Return a tree of one layer on top of base specs."""
    return ("layer", layer, tuple(("base", lower) for lower in layer[1]))


def twice(*children, end=""):
    """Return a tree of a cell in two copies."""
    return ("layer", (renamed(CELL, end),) + TWICE[1:], children)


LOW = on_bases(TWICE)
# Four levels, and seven base nodes.
HIGH = twice(twice(LOW, LOW), twice(LOW, BASE))
# Four levels, and nine base nodes, with three specs multiplied at the top.
CELLS = tuple(renamed(CELL, end) for end in "abc")
WIDE = ("layer", product_layer(CELLS), tuple(twice(LOW, BASE, end=end) for end in "abc"))
# A product of three kinds of specs.
PAIR_B = renamed(PAIR, "b")
MIXED = ("layer", product_layer((CELL, PAIR_B, PING)), (LOW, on_bases(same_layer(PAIR_B)), ("base", PING)))
TREES = (
    TREE, BASE, ("base", SILENT), LOW, HIGH, WIDE, MIXED, on_bases(same_layer(CACHE)), on_bases(same_layer(SILENT)),
)


def random_tree(source, pool, height, root=None):
    """Return a tree of layers of the pool (and identity layers), with this many levels of layers at most."""
    layer = root or source.choice(pool)
    children = []
    for lower in layer[1]:
        fits = [other for other in pool if other[0] == lower] + [identity_layer(lower)]
        if height > 1 and source.randrange(3):
            children.append(random_tree(source, pool, height - 1, source.choice(fits)))
        else:
            children.append(("base", lower))
    return ("layer", layer, tuple(children))
