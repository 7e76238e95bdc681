"""Specs and values that several tests use."""

PING = ((0,), (("ping", 0),), (((("ok", (), 0, ()),),),), (((0, ()),),))
CELL_CASES = (
    ((("none", (), 0, ()),), (("ok", (), 1, (0,)),)),
    ((("is", (0,), 1, (0,)),), (("ok", (), 1, (1,)),)),
)
CELL = ((0, 1), (("get", 0), ("put", 1)), CELL_CASES, (((0, ()),), ((1, (0,)),)))

# No operations at all.
SILENT = ((0,), (), ((),), (((0, ()),),))

# A cell whose newest value may be lost by a crash: mode 2 holds the safe value and the newest one.
CACHE = (
    (0, 1, 2),
    (("get", 0), ("put", 1), ("sync", 0)),
    (
        ((("none", (), 0, ()),), (("ok", (), 1, (0,)),), (("ok", (), 0, ()),)),
        (
            (("is", (0,), 1, (0,)),),
            (("ok", (), 2, (0, 1)),),
            (("ok", (), 1, (0,)),),
        ),
        (
            (("is", (1,), 2, (0, 1)),),
            (("full", (), 2, (0, 1)), ("ok", (), 2, (0, 2))),
            (("late", (), 2, (0, 1)), ("ok", (), 1, (1,))),
        ),
    ),
    (((0, ()),), ((1, (0,)),), ((1, (0,)), (1, (1,)), (2, (0, 1)))),
)

# Two arguments, two results, several outcomes with one reply, in modes with two values.
PAIR = (
    (0, 2),
    (("both", 0), ("set", 2), ("swap", 0)),
    (
        ((("none", (), 0, ()),), (("ok", (), 1, (0, 1)), ("ok", (), 1, (1, 0))), (("no", (), 0, ()),)),
        (
            (("are", (0, 1), 1, (0, 1)), ("are", (1, 0), 1, (0, 1))),
            (("ok", (), 1, (2, 3)), ("ok", (), 1, (3, 2)), ("same", (), 1, (0, 1))),
            (("no", (), 1, (0, 1)), ("yes", (1,), 1, (1, 0))),
        ),
    ),
    (((0, ()),), ((0, ()), (1, (0, 0)), (1, (0, 1)), (1, (1, 1)))),
)

SPECS = (PING, CELL, SILENT, CACHE, PAIR)

# Values of every kind that are no spec, no config and no run of anything but the empty history.
ODD_VALUES = (
    None, True, False, 0, 1, -1, 10 ** 39, "", "ok", "a\nb", (), [], {}, (None,), [()], {"a": ()},
    ((),), ((), (), (), ()), [(), (), (), ()], {0: (), 1: (), 2: (), 3: ()}, "abcd", (0, 0, 0, 0),
)


def all_swaps(thing, replace):
    """Return copies of a nested tuple, each with one part (or all) replaced by one of replace(part)."""
    copies = list(replace(thing))
    if isinstance(thing, tuple):
        for at, part in enumerate(thing):
            for other in all_swaps(part, replace):
                copies.append(thing[:at] + (other,) + thing[at + 1:])
    return copies


def nested(depth):
    """Return a value that is nested this deep."""
    thing = ()
    for _ in range(depth):
        thing = (thing,)
    return thing
