"""Layers that are made of specs, and of other layers (point 15)."""

from eachheight.composing import composed_program, composed_recovery
from eachheight.errors import DuplicateOperation, Mismatch
from eachheight.products import operation_owners, product_spec


def identity_layer(spec):
    """Return an identity layer of the spec."""
    return _passing_layer(spec, (spec,))


def product_layer(specs):
    """Return a product layer of one to three specs."""
    names = [name for spec in specs for name, _ in spec[1]]
    for name in sorted(names):
        if names.count(name) > 1:
            raise DuplicateOperation(name)
    return _passing_layer(product_spec(specs), specs)


def compose_layers(layer, layers):
    """Return a composed layer of a layer and of one for each of its lower specs."""
    upper, lowers, programs, _ = layer
    for position, (inner, lower) in enumerate(zip(layers, lowers)):
        if inner[0] != lower:
            raise Mismatch(position)
    return (
        upper,
        tuple([lower for inner in layers for lower in inner[1]]),
        tuple([composed_program(layer, layers, index) for index in range(len(programs))]),
        composed_recovery(layer, layers),
    )


def _passing_layer(upper, specs):
    """Return a layer whose operations are those of the specs, each passed on to the spec that has it."""
    programs = [_passing_program(specs[k], k, index) for k, index in operation_owners(specs)]
    return (upper, specs, tuple(programs), (("up",),))


def _passing_program(spec, k, index):
    """Return a program that calls an operation of lower spec k and returns whatever it replies."""
    op, arity = spec[1][index]
    counts = {reply: len(results) for row in spec[2] for reply, results, _, _ in row[index]}
    replies = sorted(counts)
    branches = [
        (reply, tuple(range(counts[reply])), at + 1)
        for at, reply in enumerate(replies)
    ]
    call = ("call", k, op, tuple(range(arity)), tuple(branches))
    ends = [("return", reply, tuple(range(counts[reply]))) for reply in replies]
    return (call, *ends)
