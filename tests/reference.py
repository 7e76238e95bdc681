"""What points 4 to 7 say, once more and as plainly as possible, to compare the program with."""

from itertools import product
from string import ascii_lowercase


def plain_int(thing):
    return type(thing) is int


def name(thing):
    return type(thing) is str and 0 < len(thing) < 9 and set(thing) <= set(ascii_lowercase)


def ascending(things):
    return list(things) == sorted(set(things))


def references(thing, count, limit):
    return type(thing) is tuple and len(thing) in count and all(
        plain_int(part) and part in range(limit) for part in thing
    )


def spec(thing):
    """Return whether a value is a spec, by point 5 read from top to bottom."""
    try:
        return _spec(thing)
    except (TypeError, ValueError, IndexError, AssertionError):
        return False


def need(test):
    if not test:
        raise AssertionError


def _spec(thing):
    need(type(thing) is tuple)
    slots, operations, cases, crashes = thing
    need(type(slots) is tuple and len(slots) > 0 and slots[0] == 0)
    need(all(plain_int(count) and 0 <= count <= 12 for count in slots))
    need(type(operations) is tuple)
    for operation in operations:
        need(type(operation) is tuple and len(operation) == 2)
        need(name(operation[0]) and plain_int(operation[1]) and 0 <= operation[1] <= 2)
    need(ascending(operations))
    need(len({operation[0] for operation in operations}) == len(operations))
    need(type(cases) is tuple and len(cases) == len(slots))
    seen = set()
    for mode, row in enumerate(cases):
        need(type(row) is tuple and len(row) == len(operations))
        for (op, arity), case in zip(operations, row):
            need(type(case) is tuple and len(case) > 0)
            for outcome in case:
                need(type(outcome) is tuple)
                reply, results, after, kept = outcome
                need(name(reply) and references(results, (0, 1, 2), slots[mode] + arity))
                need(plain_int(after) and 0 <= after < len(slots))
                need(references(kept, (slots[after],), slots[mode] + arity))
                seen.add((op, reply, len(results)))
            need(ascending(case))
    need(len({(op, reply) for op, reply, _ in seen}) == len(seen))
    need(type(crashes) is tuple and len(crashes) == len(slots))
    for mode, entry in enumerate(crashes):
        need(type(entry) is tuple and len(entry) > 0)
        for crash in entry:
            need(type(crash) is tuple)
            after, kept = crash
            need(plain_int(after) and 0 <= after < len(slots))
            need(references(kept, (slots[after],), slots[mode]))
        need(ascending(entry))
    need(transitive(crashes))
    return True


def transitive(crashes):
    for entry in crashes:
        for after, kept in entry:
            for last, more in crashes[after]:
                if (last, tuple(kept[slot] for slot in more)) not in entry:
                    return False
    return True


def runs(spec_, history):
    """Return the set of all runs of a history, each step of each one taken by itself."""
    found = {()}
    for event in history:
        found = {run + (last,) for run in found for last in after(spec_, run[-1] if run else (0, ()), event)}
    return found


def _crashed(crashes, config):
    return {(after, tuple(config[1][slot] for slot in kept)) for after, kept in crashes[config[0]]}


def after(spec_, config, event):
    """Return the set of the configs to which the event leads from the config."""
    _, operations, cases, crashes = spec_
    if event == ("crash",):
        return _crashed(crashes, config)
    at = [operation[0] for operation in operations].index(event[1])
    held = config[1] + event[2]
    afters = set()
    for reply, results, mode, kept in cases[config[0]][at]:
        said = (reply, tuple(held[slot] for slot in results))
        target = (mode, tuple(held[slot] for slot in kept))
        if event[0] == "cut":
            afters |= _crashed(crashes, target)
        elif said == event[3:]:
            afters.add(target)
    return afters | _crashed(crashes, config) if event[0] == "cut" else afters


def events(spec_, values):
    """Return all events of a spec with these values, its own replies and one that it never gives."""
    found = [("crash",)]
    for at, (op, arity) in enumerate(spec_[1]):
        replies = {(reply, len(results)) for row in spec_[2] for reply, results, _, _ in row[at]}
        for arguments in product(values, repeat=arity):
            found.append(("cut", op, arguments))
            for reply, count in sorted(replies) + [("never", 0)]:
                for results in product(values, repeat=count):
                    found.append(("done", op, arguments, reply, results))
    return found
