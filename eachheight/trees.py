"""Trees of layers over base specs, and their nodes (point 16)."""

from eachheight.layers import is_layer
from eachheight.specs import is_spec, is_tuple


def is_tree(thing):
    """Return whether a value is a tree."""
    if is_tuple(thing, 2) and thing[0] == "base":
        return is_spec(thing[1])
    if not is_tuple(thing, 3) or thing[0] != "layer":
        return False
    _, layer, children = thing
    if not is_layer(layer) or not is_tuple(children, len(layer[1])):
        return False
    return all([is_tree(child) for child in children]) and first_mismatch(layer, children) is None


def tree_nodes(tree):
    """Return all nodes of the tree, ascending."""
    nodes = [()]
    for k, child in enumerate(_children(tree)):
        nodes.extend([(k,) + node for node in tree_nodes(child)])
    return tuple(nodes)


def spec_at(tree, node):
    """Return the spec of a node of the tree."""
    part = part_at(tree, node)
    return part[1] if part[0] == "base" else part[1][0]


def part_at(tree, node):
    """Return the tree whose root is this node."""
    part = tree
    for k in node:
        part = part[2][k]
    return part


def nodes_from_below(tree):
    """Return all nodes of the tree: what is below a node in order, then the node."""
    nodes = []
    for k, child in enumerate(_children(tree)):
        nodes.extend([(k,) + node for node in nodes_from_below(child)])
    return nodes + [()]


def first_mismatch(layer, children):
    """Return the index of the first tree whose spec is not that lower spec, or None."""
    for k, (child, lower) in enumerate(zip(children, layer[1])):
        if spec_at(child, ()) != lower:
            return k
    return None


def _children(tree):
    return () if tree[0] == "base" else tree[2]
