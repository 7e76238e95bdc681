import itertools
import random
import time
import unittest

from eachheight import specs
from eachheight.chains import are_transitive
from eachheight.specs import is_name, is_spec, is_value
from tests import reference
from tests.samples import CACHE, CELL, ODD_VALUES, PAIR, PING, SILENT, SPECS, all_swaps, nested


def one_op(arity, *outcomes):
    """Return a spec with one mode and one operation."""
    return ((0,), (("op", arity),), ((outcomes,),), (((0, ()),),))


def with_crashes(slots, *crashes):
    """Return a spec without operations with these crashes."""
    return (slots, (), ((),) * len(slots), crashes)


class NameTest(unittest.TestCase):
    def test_names(self):
        for name in ("a", "z", "get", "abcdefgh", "zzzzzzzz", "aaaaaaaa"):
            self.assertIs(is_name(name), True)

    def test_no_names(self):
        for thing in ("", "abcdefghi", "Get", "geT", "a b", "a_b", "a1", "1", " ", "a\n", "\n", "-",
                      "`", "{", "a" * 8000, b"get", ("g", "e"), ["get"], {"get": 1}, ("get",)):
            self.assertIs(is_name(thing), False, thing)
        for thing in ODD_VALUES:
            self.assertIs(is_name(thing), thing in ("ok", "abcd"), thing)


class ValueTest(unittest.TestCase):
    def test_values(self):
        for value in (0, 1, 7, 12, 10 ** 9 - 1, 10 ** 9):
            self.assertIs(is_value(value), True)

    def test_no_values(self):
        for thing in (True, False, -1, 10 ** 9 + 1, 10 ** 40 - 1, -10 ** 39, "7", (7,), [7], {7: 7}):
            self.assertIs(is_value(thing), False, thing)
        for thing in ODD_VALUES:
            self.assertIs(is_value(thing), type(thing) is int and thing in (0, 1), thing)


class SpecTest(unittest.TestCase):
    def is_spec(self, thing):
        found = is_spec(thing)
        self.assertIs(type(found), bool)
        self.assertIs(is_spec(thing), found)
        self.assertEqual(found, reference.spec(thing), thing)
        return found

    def test_specs(self):
        for spec in SPECS:
            self.assertTrue(self.is_spec(spec))

    def test_other_values(self):
        for thing in ODD_VALUES + tuple(nested(depth) for depth in range(30)):
            self.assertFalse(self.is_spec(thing))

    def test_parameters_have_their_names(self):
        self.assertEqual([is_name(thing="a"), is_value(thing=0), is_spec(thing=PING)], [True] * 3)

    def test_defined_in_the_file(self):
        for function in (specs.is_name, specs.is_value, specs.is_spec):
            self.assertEqual(function.__module__, "eachheight.specs")

    def test_arguments_stay(self):
        thing = [[0], [["ping", 0]], [[[["ok", [], 0, []]]]], {"a": [[0, []]]}]
        copy = [[0], [["ping", 0]], [[[["ok", [], 0, []]]]], {"a": [[0, []]]}]
        self.assertFalse(is_spec(thing))
        self.assertEqual(thing, copy)

    def test_slots(self):
        stay = (((0, ()),), ((0, ()),))
        for count in range(13):
            self.assertTrue(self.is_spec(with_crashes((0, count), *stay)))
        for count in (-1, 13, 14, 10 ** 39, True, False, None, "1", (1,)):
            self.assertFalse(self.is_spec(with_crashes((0, count), *stay)))
        for slots in ((1,), (12,), (-1,), (False,), (None,)):
            self.assertFalse(self.is_spec(with_crashes(slots, ((0, ()),))))
        self.assertFalse(self.is_spec(((), (), (), ())))
        self.assertFalse(self.is_spec(((1, 0), (), ((), ()), (((0, (0,)),), ((1, ()),)))))

    def test_operations(self):
        def with_operations(*operations):
            row = ((("ok", (), 0, ()),),) * len(operations)
            return ((0,), operations, (row,), (((0, ()),),))

        self.assertTrue(self.is_spec(with_operations()))
        for arity in (0, 1, 2):
            self.assertTrue(self.is_spec(with_operations(("a", arity))))
        for arity in (-1, 3, True, False, None, "0", (0,), [0]):
            self.assertFalse(self.is_spec(with_operations(("a", arity))))
        for name in ("abcdefgh", "z"):
            self.assertTrue(self.is_spec(with_operations((name, 0))))
        for name in ("abcdefghi", "", "A", 0, None, ("a",), ["a"], {"a": 0}):
            self.assertFalse(self.is_spec(with_operations((name, 0))))
        self.assertTrue(self.is_spec(with_operations(("a", 2), ("ab", 1), ("b", 0))))
        for wrong in ((("b", 0), ("a", 0)), (("a", 0), ("a", 0)), (("a", 0), ("a", 1)),
                      (("a", 0), ("b", 0), ("a", 1)), (("a", 0), ("c", 0), ("b", 0)),
                      (("a",),), (("a", 0, 0),), (["a", 0],), ("a0",), ({"a": 0},), (None,)):
            self.assertFalse(self.is_spec(with_operations(*wrong)))

    def test_replies_and_results(self):
        for reply in ("a", "abcdefgh"):
            self.assertTrue(self.is_spec(one_op(0, (reply, (), 0, ()))))
        for reply in ("abcdefghi", "", "Ok", 0, None, (), ["ok"]):
            self.assertFalse(self.is_spec(one_op(0, (reply, (), 0, ()))))
        for results in ((), (0,), (1,), (0, 1), (1, 0), (1, 1)):
            self.assertTrue(self.is_spec(one_op(2, ("ok", results, 0, ()))))
        for results in ((0, 1, 0), (2,), (-1,), (0, 2), (True,), (False, 1), [0], {0: 1}, None, 0, "0", ""):
            self.assertFalse(self.is_spec(one_op(2, ("ok", results, 0, ()))))
        self.assertFalse(self.is_spec(one_op(0, ("ok", (0,), 0, ()))))

    def test_references_count_values_then_arguments(self):
        def with_outcome(results, after, kept):
            case = ((("ok", (0,), 0, ()),),)
            return ((0, 2), (("op", 1),), (case, ((("ok", results, after, kept),),)),
                    (((0, ()),), ((0, ()),)))

        for reference_ in (0, 1, 2):
            self.assertTrue(self.is_spec(with_outcome((reference_,), 0, ())))
            self.assertTrue(self.is_spec(with_outcome((0,), 1, (reference_, 2))))
        for reference_ in (-1, 3, True, False, None, "0"):
            self.assertFalse(self.is_spec(with_outcome((reference_,), 0, ())))
            self.assertFalse(self.is_spec(with_outcome((0,), 1, (reference_, 2))))
        for after, kept in ((0, (0,)), (1, ()), (1, (0,)), (1, (0, 0, 0)), (2, ()), (-1, ()), (-1, (0, 0)),
                            (True, (0, 0)), (False, ()), (None, ()), ((), ()), (0, []), (0, None), (0, "")):
            self.assertFalse(self.is_spec(with_outcome((0,), after, kept)))

    def test_outcomes_are_ascending(self):
        low, high = ("no", (), 0, ()), ("ok", (), 0, ())
        self.assertTrue(self.is_spec(one_op(0, low, high)))
        self.assertFalse(self.is_spec(one_op(0, high, low)))
        self.assertFalse(self.is_spec(one_op(0, low, low)))
        self.assertFalse(self.is_spec(one_op(0, low, high, high)))
        self.assertFalse(self.is_spec(one_op(0)))
        first, second = ("ok", (0,), 0, ()), ("ok", (1,), 0, ())
        self.assertTrue(self.is_spec(one_op(2, first, second)))
        self.assertFalse(self.is_spec(one_op(2, second, first)))
        kept = [("ok", (), 1, (slot,)) for slot in (0, 1)]
        for case, good in ((kept, True), (kept[::-1], False), (kept[:1] * 2, False)):
            thing = ((0, 1), (("op", 2),), ((tuple(case),),) * 2, (((0, ()),), ((0, ()),)))
            self.assertEqual(self.is_spec(thing), good)
        both = (("ok", (), 0, ()), ("ok", (), 1, (0,)))
        for case, good in ((both, True), (both[::-1], False)):
            thing = ((0, 1), (("op", 1),), ((case,),) * 2, (((0, ()),), ((0, ()),)))
            self.assertEqual(self.is_spec(thing), good)

    def test_a_reply_has_one_number_of_results(self):
        self.assertFalse(self.is_spec(one_op(1, ("ok", (), 0, ()), ("ok", (0,), 0, ()))))
        self.assertTrue(self.is_spec(one_op(1, ("no", (), 0, ()), ("ok", (0,), 0, ()))))
        empty, full = (("ok", (), 0, ()),), (("ok", (0,), 0, ()),)
        for cases, good in ((((full,), (full,)), True), (((empty,), (empty,)), True),
                            (((empty,), (full,)), False), (((full,), (empty,)), False)):
            self.assertEqual(self.is_spec(((0, 0), (("op", 1),), cases, (((0, ()),),) * 2)), good)
        # Another operation may use the same reply in its own way.
        two = (("op", 1), ("other", 1))
        self.assertTrue(self.is_spec(((0,), two, ((full, empty),), (((0, ()),),))))
        self.assertTrue(self.is_spec(((0, 0), two, ((full, empty),) * 2, (((0, ()),),) * 2)))
        self.assertFalse(self.is_spec(((0, 0), two, ((full, empty), (full, full)), (((0, ()),),) * 2)))

    def test_cases_and_crashes_have_an_entry_for_each_mode(self):
        row, entry = ((("ok", (), 0, ()),),), ((0, ()),)
        operations = (("op", 0),)
        self.assertTrue(self.is_spec(((0, 0), operations, (row, row), (entry, entry))))
        for cases in ((), (row,), (row,) * 3, (row, ()), (row, row + row), row + row):
            self.assertFalse(self.is_spec(((0, 0), operations, cases, (entry, entry))))
        for crashes in ((), (entry,), (entry,) * 3, (entry, ()), entry + entry, (entry, entry + entry)):
            self.assertFalse(self.is_spec(((0, 0), operations, (row, row), crashes)))

    def test_crashes_are_of_the_right_form(self):
        first = ((0, ()),)
        good = [(0, ()), (1, (0, 0)), (1, (0, 1)), (1, (1, 1))]
        self.assertTrue(self.is_spec(with_crashes((0, 2), first, tuple(good))))
        self.assertFalse(self.is_spec(with_crashes((0, 2), first, tuple(good[::-1]))))
        self.assertFalse(self.is_spec(with_crashes((0, 2), first, tuple(good + good[3:]))))
        for wrong in ((1, (0, 2)), (1, (-1, 0)), (1, (0,)), (1, (0, 0, 0)), (0, (0,)), (2, ()), (-1, ()),
                      (True, (0, 1)), (1, (False, 1)), (1, (0, True)), (1, [0, 1]), [1, (0, 1)], (1,),
                      (1, (0, 1), 0), None, 1, "10", (1, None), (None, ()), ("a", ())):
            self.assertFalse(self.is_spec(with_crashes((0, 2), first, (wrong,))), wrong)
            self.assertFalse(self.is_spec(with_crashes((0, 2), first, ((0, ()), wrong))), wrong)
        # A crash keeps no argument and, from mode 0, nothing.
        self.assertFalse(self.is_spec(with_crashes((0, 1), ((1, (0,)),), first)))

    def test_crashes_are_transitive(self):
        zero, one, two = (0, ()), (1, ()), (2, ())
        self.assertTrue(self.is_spec(with_crashes((0, 0, 0), (zero,), (zero,), (zero, one, two))))
        self.assertTrue(self.is_spec(with_crashes((0, 0, 0), (two,), (two,), (two,))))
        self.assertTrue(self.is_spec(with_crashes((0, 0), (zero, one), (zero, one))))
        self.assertFalse(self.is_spec(with_crashes((0, 0, 0), (zero,), (zero,), (one, two))))
        self.assertFalse(self.is_spec(with_crashes((0, 0, 0), (one,), (two,), (two,))))
        self.assertFalse(self.is_spec(with_crashes((0, 0), (one,), (zero,))))

    def test_crashes_are_transitive_in_what_they_keep(self):
        first, swap, same = (0, ()), (1, (1, 0)), (1, (0, 1))
        self.assertFalse(self.is_spec(with_crashes((0, 2), (first,), (swap,))))
        self.assertTrue(self.is_spec(with_crashes((0, 2), (first,), (same,))))
        self.assertTrue(self.is_spec(with_crashes((0, 2), (first,), (same, swap))))
        self.assertFalse(self.is_spec(with_crashes((0, 2), (first,), ((1, (0, 0)), swap))))
        shift = ((1, (0, 0, 1)),)
        self.assertFalse(self.is_spec(with_crashes((0, 3), (first,), shift)))
        self.assertTrue(self.is_spec(with_crashes((0, 3), (first,), ((1, (0, 0, 0)),) + shift)))

    def test_kept_values_through_another_mode(self):
        # Mode 1 keeps its values 1, 0, 0 in mode 2; mode 3 keeps its values 1, 2 in mode 1. So a
        # chain keeps the entries 2, 1, 1 of mode 3, and not 1, 0, 0 or what the other order gives.
        first, last = ((0, ()),), ((2, (0, 1, 2)),)
        for kept, good in (((2, 1, 1), True), ((1, 2, 2), False), ((1, 0, 0), False), ((1, 1, 2), False)):
            crashes = (first, ((2, (1, 0, 0)),), last, ((1, (1, 2)), (2, kept)))
            self.assertEqual(self.is_spec(with_crashes((0, 2, 3, 3), *crashes)), good)

    def test_lists_dicts_and_bools_at_any_depth(self):
        def other_kinds(part):
            if isinstance(part, tuple):
                return [list(part), dict(enumerate(part)), None, str(part)]
            if isinstance(part, int):
                return [bool(part), str(part), None, (part,), [part], -1 - part]
            return [part.upper(), part + " ", (part,), [part], 0, None, tuple(part), {part: part}]

        for spec in SPECS:
            for thing in all_swaps(spec, other_kinds):
                self.assertFalse(self.is_spec(thing), thing)

    def test_parts_removed_repeated_or_added_at_any_depth(self):
        extras = ((), 0, "ok", None, (0, ()), ("ok", (), 0, ()), ("op", 0), (("ok", (), 0, ()),))

        def other_parts(part):
            if not isinstance(part, tuple):
                return []
            copies = [part[:at] + part[at + 1:] for at in range(len(part))]
            copies += [part[:at] + part[at:at + 1] + part[at:] for at in range(len(part))]
            copies += [part[::-1]]
            copies += [part[:at] + (extra,) + part[at:] for extra in extras for at in (0, len(part))]
            return copies

        for spec in SPECS:
            found = [self.is_spec(thing) for thing in all_swaps(spec, other_parts)]
            self.assertIn(False, found)

    def test_integers_and_names_replaced(self):
        def others(part):
            if isinstance(part, int):
                return [number for number in (0, 1, 2, 3, 12, 13) if number != part]
            return ["a", "ok", "put", "zz", "abcdefgh", "abcdefghi"] if isinstance(part, str) else []

        for spec in SPECS:
            found = [self.is_spec(thing) for thing in all_swaps(spec, others)]
            self.assertEqual({True, False} - set(found), set() if spec != SILENT else {True})

    def test_beyond_the_limits_of_point_2(self):
        letters = [a + b for a in "abcd" for b in "efgh"]
        operations = tuple((name, 2) for name in letters)
        case = tuple((name, (0, 1), 0, ()) for name in letters)
        row = (case,) * len(operations)
        entry = tuple((mode, ()) for mode in range(7))
        self.assertTrue(self.is_spec(((0,) * 7, operations, (row,) * 7, (entry,) * 7)))
        slots = (0, 12)
        held = (1, tuple(range(12)))
        keep = (("ok", (), 1, tuple(range(11)) + (12,)),)
        start = (("ok", (), 1, (0,) * 12),)
        self.assertTrue(self.is_spec((slots, (("op", 1),), ((start,), (keep,)), (((0, ()),), (held,)))))

    def test_large_values_are_quick(self):
        all_maps = tuple((1, kept) for kept in itertools.product(range(5), repeat=5))
        losing = tuple(crash for crash in all_maps if len(set(crash[1])) < 5)
        constant = tuple((1, (0,) * 4 + kept) for kept in itertools.product(range(4), repeat=6))[:2000]
        modes = 90
        everywhere = tuple((mode, ()) for mode in range(modes))
        started = time.monotonic()
        self.assertIs(is_spec(with_crashes((0, 5), ((0, ()),), all_maps)), True)
        self.assertIs(is_spec(with_crashes((0, 5), ((0, ()),), losing)), True)
        self.assertIs(is_spec(with_crashes((0, 5), ((0, ()),), all_maps[1:])), False)
        self.assertIs(is_spec(with_crashes((0, 5), ((0, ()),), all_maps[:-1])), False)
        self.assertIs(is_spec(with_crashes((0, 10), ((0, ()),), constant)), True)
        self.assertIs(is_spec(with_crashes((0,) * modes, *(everywhere,) * modes)), True)
        self.assertIs(is_spec("a" * 8000), False)
        self.assertIs(is_spec(((0,) * 29990, (), (), ())), False)
        self.assertIs(is_spec((((),) * 29990,) * 4), False)
        self.assertLess(time.monotonic() - started, 20)


class TransitiveTest(unittest.TestCase):
    def test_against_all_pairs_of_crashes(self):
        found = []
        source = random.Random(5)
        for _ in range(6000):
            slots = [source.choice((0, 1, 1, 2, 3)) for _ in range(source.randint(1, 3))]
            crashes = tuple(self.some_crashes(source, slots, held) for held in slots)
            found.append(reference.transitive(crashes))
            self.assertEqual(are_transitive(crashes), found[-1], crashes)
        self.assertGreater(found.count(True), 300)
        self.assertGreater(found.count(False), 300)

    def test_closed_tables_and_ones_with_a_crash_taken_out(self):
        found = []
        source = random.Random(6)
        for _ in range(1500):
            slots = [source.choice((0, 1, 2, 3)) for _ in range(source.randint(1, 3))]
            crashes = self.closed([self.some_crashes(source, slots, held) for held in slots])
            self.assertTrue(are_transitive(crashes))
            for mode, entry in enumerate(crashes):
                out = source.randrange(len(entry))
                fewer = entry[:out] + entry[out + 1:]
                table = crashes[:mode] + (fewer,) + crashes[mode + 1:]
                found.append(reference.transitive(table))
                self.assertEqual(are_transitive(table), found[-1], table)
        self.assertGreater(found.count(True), 300)
        self.assertGreater(found.count(False), 300)

    def some_crashes(self, source, slots, held):
        crashes = [
            (mode, kept) for mode, count in enumerate(slots)
            for kept in itertools.product(range(held), repeat=count)
        ]
        return tuple(sorted(source.sample(crashes, min(len(crashes), source.randint(1, 3)))))

    def closed(self, crashes):
        tables = [set(entry) for entry in crashes]
        while not reference.transitive(tables):
            for entry in tables:
                entry |= {
                    (last, tuple(kept[slot] for slot in more))
                    for after, kept in entry for last, more in tables[after]
                }
        return tuple(tuple(sorted(entry)) for entry in tables)


class ExamplesTest(unittest.TestCase):
    def test_examples_of_the_interface(self):
        self.assertEqual([is_name("get"), is_name("Get")], [True, False])
        self.assertEqual([is_value(7), is_value(True)], [True, False])
        self.assertEqual([is_spec(PING), is_spec(CELL), is_spec(CELL[:3])], [True, True, False])
        self.assertEqual([is_spec(CACHE), is_spec(PAIR)], [True, True])
