import random
import time
import unittest

from eachheight import layers
from eachheight.layers import is_layer
from tests import reference_layers
from tests.layer_samples import BAD, FIVE, GOOD, LAYERS, MOVES, TWICE, random_layers, random_program
from tests.samples import CACHE, CELL, ODD_VALUES, PAIR, PING, SILENT, all_swaps, nested

RETURN = ("return", "ok", ())
UP = ("up",)

# Operations with no, one and two arguments, for programs with as many variables at their start.
ARITIES = (
    (0,), (("one", 1), ("two", 2), ("zero", 0)),
    (((("ok", (), 0, ()),), (("ok", (), 0, ()),), (("ok", (), 0, ()),)),), (((0, ()),),),
)


def with_recovery(*instructions, lowers=(CELL, CACHE, PAIR, PING)):
    return (SILENT, lowers, (), instructions)


def with_program(arity, *instructions, lowers=(CELL, CACHE, PAIR, PING)):
    """Return a layer with this program for the operation with this arity."""
    programs = tuple(instructions if count == arity else (RETURN,) for _, count in ARITIES[1])
    return (ARITIES, lowers, programs, (UP,))


def get(*branches):
    return ("call", 0, "get", (), branches)


class LayerTestCase(unittest.TestCase):
    def is_layer(self, thing):
        found = is_layer(thing)
        self.assertIs(type(found), bool)
        self.assertIs(is_layer(thing), found)
        self.assertEqual(found, reference_layers.layer(thing), thing)
        return found

    def good(self, *things):
        for thing in things:
            self.assertTrue(self.is_layer(thing), thing)

    def wrong(self, *things):
        for thing in things:
            self.assertFalse(self.is_layer(thing), thing)


class LayerTest(LayerTestCase):
    def test_examples_of_the_interface(self):
        self.assertEqual([is_layer(GOOD), is_layer(BAD), is_layer(PING)], [True, True, False])

    def test_layers(self):
        self.good(*LAYERS)

    def test_other_values(self):
        self.wrong(*ODD_VALUES)
        self.wrong(*[nested(depth) for depth in range(30)])
        self.wrong(GOOD[:3], GOOD + (UP,), list(GOOD), dict(enumerate(GOOD)), (GOOD,), PING, CELL)

    def test_parameter_has_its_name(self):
        self.assertIs(is_layer(thing=GOOD), True)

    def test_defined_in_the_file(self):
        self.assertEqual(layers.is_layer.__module__, "eachheight.layers")

    def test_arguments_stay(self):
        thing = (PING, (PING,), [[["call", 0, {"ping": []}]]], [["up"]])
        copy = (PING, (PING,), [[["call", 0, {"ping": []}]]], [["up"]])
        self.assertFalse(is_layer(thing))
        self.assertEqual(thing, copy)

    def test_lower_specs(self):
        for count in (1, 2, 5, 6, 9):
            self.good((SILENT, (PING,) * count, (), (UP,)))
            last = ("call", count - 1, "ping", (), ())
            self.good((SILENT, (CELL,) * (count - 1) + (PING,), (), (last, UP)))
            self.wrong((SILENT, (PING,) * (count - 1) + (CELL,), (), (last, UP)))
        for lowers in ((), [PING], {0: PING}, PING, None, (PING, ()), (PING, None), (PING, list(PING)), (GOOD,)):
            self.wrong((SILENT, lowers, (), (UP,)))

    def test_specs_within_are_specs(self):
        descending = ((0,), (("b", 0), ("a", 0)), ((PING[2][0][0],) * 2,), PING[3])
        unsteady = ((0, 0, 0), (), ((),) * 3, (((1, ()),), ((2, ()),), ((2, ()),)))
        for spec in (descending, unsteady, PING[:3], (), None, list(PING), CELL[:2] + CELL[3:] + CELL[2:3]):
            self.wrong((spec, (PING,), GOOD[2], GOOD[3]))
            self.wrong((spec, (PING,), (), GOOD[3]))
            self.wrong((PING, (spec,), GOOD[2], GOOD[3]))
            self.wrong((SILENT, (PING, spec), (), (UP,)))
            self.wrong((SILENT, (spec, PING), (), (UP,)))

    def test_a_program_for_each_operation(self):
        program = TWICE[2]
        for programs in ((), program[:1], program[1:], program + program[:1], (program[0], ()), program[0],
                         list(program), dict(enumerate(program)), None, (program[0], None), (None, program[1])):
            self.wrong((CELL, (CELL, CELL), programs, (UP,)))
        # In the order of the operations, so "put" has the argument.
        self.wrong((CELL, (CELL, CELL), program[::-1], (UP,)))
        self.good((CELL, (CELL, CELL), program[:1] * 2, (UP,)))
        self.good((SILENT, (PING,), (), (UP,)))
        self.wrong((SILENT, (PING,), GOOD[2], (UP,)))

    def test_lengths_of_programs(self):
        for count in (0, 1, 14, 15, 16, 40):
            moves = (("move", (0,), (0,)),) * count
            calls = tuple(get(("is", (1,), at + 1), ("none", (), at + 1)) for at in range(count))
            self.assertIs(is_layer(with_program(0, *calls, RETURN)), True)
            self.assertIs(is_layer(with_recovery(*calls, UP)), True)
            self.good(with_program(1, *moves, RETURN))
            if count:
                self.wrong(with_program(0, *moves, RETURN), with_program(1, *moves), with_recovery(*calls))
        self.wrong(with_program(0), with_recovery())


class EndTest(LayerTestCase):
    def test_the_last_instruction_is_an_end(self):
        for last in (get(), ("move", (), ()), ("jump", 1), ("jump", 2), ("jump", 0), UP, None, (), "up"):
            self.wrong(with_program(0, last), with_program(0, RETURN, last))
        for last in (get(), ("move", (), ()), ("jump", 1), ("jump", 2), ("jump", 0), RETURN, None, (), "up"):
            self.wrong(with_recovery(last), with_recovery(UP, last))

    def test_ends_at_other_places(self):
        self.good(with_program(0, RETURN, RETURN), with_recovery(UP, UP), with_recovery(UP, get(), UP))
        self.good(with_program(0, get(("none", (), 2)), RETURN, ("return", "never", ())))
        self.good(with_program(0, RETURN, ("move", (1,), (0,)), RETURN))
        self.wrong(with_program(0, UP, RETURN), with_program(0, RETURN, UP, RETURN))
        self.wrong(with_recovery(RETURN, UP), with_recovery(UP, RETURN, UP))
        self.wrong(with_program(0, UP), with_recovery(RETURN))

    def test_up(self):
        self.good(with_recovery(UP))
        for wrong in (("up", ()), ("up", "up"), ("up", 0), ["up"], "up", ("Up",), ("up ",), {"up": 0}, {0: "up"}):
            self.wrong(with_recovery(wrong), with_recovery(wrong, UP), with_recovery(UP, wrong))

    def test_return(self):
        for name in ("a", "ok", "never", "abcdefgh"):
            self.good(with_program(0, ("return", name, ())))
        for name in ("", "Ok", "abcdefghi", "a b", 0, None, (), ("ok",), ["ok"], True):
            self.wrong(with_program(0, ("return", name, ())))
        for inputs in ((), (0,), (1,), (0, 1), (1, 0), (0, 0), (1, 1)):
            self.good(with_program(2, ("return", "ok", inputs)))
        for inputs in ((0, 1, 0), (0, 0, 0), (2,), (0, 2), (-1,), (True,), (False,), (0, True), [0], {0: 0}, 0, "",
                       "0", None, ("0",), ((0,),)):
            self.wrong(with_program(2, ("return", "ok", inputs)))
        for wrong in (("return",), ("return", "ok"), ("return", "ok", (), ()), ["return", "ok", ()],
                      ("RETURN", "ok", ())):
            self.wrong(with_program(0, wrong), with_program(0, RETURN, wrong), with_program(0, wrong, RETURN))

    def test_kinds(self):
        for wrong in ((), None, 0, "jump", [], {}, ("halt",), ("", 1), (None, 1), (0, 1), (True,), (["jump"], 1),
                      ({"jump": 1},), (("jump", 1),), ("jumps", 1), ("Jump", 1), ("cal", 0, "get", (), ())):
            self.wrong(with_program(0, wrong, RETURN), with_recovery(wrong, UP), with_recovery(UP, wrong, UP))


class TargetTest(LayerTestCase):
    def layers_to(self, target):
        """Return layers whose instruction 1 of four leads to this target by a jump, and by branches."""
        yield with_recovery(("move", (), ()), ("jump", target), ("move", (), ()), UP)
        yield with_recovery(("move", (), ()), get(("none", (), target)), ("move", (), ()), UP)
        yield with_recovery(("move", (), ()), get(("is", (0,), 2), ("none", (), target)), ("move", (), ()), UP)
        yield with_program(0, ("move", (), ()), get(("is", (0,), target), ("none", (), 3)), ("jump", 3), RETURN)

    def test_later_instructions(self):
        for target in (2, 3):
            self.good(*self.layers_to(target))

    def test_the_same_earlier_ones_and_beyond_the_end(self):
        for target in (1, 0, -1, -2, 4, 5, 10 ** 39, -10 ** 39):
            self.wrong(*self.layers_to(target))

    def test_no_integers(self):
        for target in (True, False, None, "2", (2,), [2], {2: 2}, ()):
            self.wrong(*self.layers_to(target))
        self.good(with_recovery(("jump", 1), UP))
        self.wrong(with_recovery(("jump", True), UP), with_recovery(get(("none", (), True)), UP))

    def test_jumps_are_pairs(self):
        for wrong in (("jump",), ("jump", 1, 1), ("jump", 1, ()), ["jump", 1]):
            self.wrong(with_recovery(wrong, UP), with_recovery(UP, wrong, UP))

    def test_several_branches_with_one_target(self):
        self.good(with_recovery(get(("is", (0,), 1), ("none", (), 1)), UP))


class CallTest(LayerTestCase):
    def call(self, *parts):
        return with_program(2, ("call",) + parts, RETURN)

    def test_lower_specs_by_index(self):
        for k in (0, 1):
            self.good(self.call(k, "get", (), ()))
        for k in (2, 3, 4, -1, -3, True, False, None, "0", (0,), [0], 10 ** 39):
            self.wrong(self.call(k, "get", (), ()))
        self.good(self.call(3, "ping", (), (("ok", (), 1),)))

    def test_operations_of_that_spec(self):
        for op in ("sync", "ping", "both", "Get", "", "never", "abcdefghi", None, 0, True, ("get",), ["get"],
                   {"get": 0}):
            self.wrong(self.call(0, op, (), ()))
        self.good(self.call(1, "sync", (), ()))

    def test_inputs(self):
        self.good(self.call(0, "put", (0,), ()), self.call(0, "put", (1,), ()), self.call(0, "get", (), ()))
        for inputs in ((0, 1), (1, 0), (0, 0), (1, 1)):
            self.good(self.call(2, "set", inputs, ()))
        for inputs in ((), (0, 1), (0, 0), (2,), (-1,), (True,), (False,), [0], {0: 0}, 0, "0", None, ((0,),)):
            self.wrong(self.call(0, "put", inputs, ()))
        for inputs in ((), (0,), (0, 1, 0), (0, 2), (0, True), (0, -1), (0, None)):
            self.wrong(self.call(2, "set", inputs, ()))
        self.wrong(self.call(0, "get", (0,), ()))

    def test_lengths(self):
        for wrong in (("call",), ("call", 0), ("call", 0, "get"), ("call", 0, "get", ()), get() + ((),), list(get())):
            self.wrong(with_recovery(wrong, UP), with_recovery(UP, wrong, UP))

    def test_branches_are_ascending(self):
        is_, none = ("is", (3,), 1), ("none", (), 1)
        for branches in ((), (is_,), (none,), (is_, none)):
            self.good(self.call(0, "get", (), branches))
        for branches in ((none, is_), (is_, is_), (none, none), (is_, none, none), (is_, is_, none)):
            self.wrong(self.call(0, "get", (), branches))
        # The same reply once more is not distinct, wherever it leads.
        self.wrong(with_recovery(get(("is", (0,), 1), ("is", (1,), 1)), UP))
        self.wrong(with_recovery(get(("none", (), 1), ("none", (), 2)), UP, UP))
        self.good(with_recovery(get(("is", (9,), 2), ("none", (), 1)), UP, UP))

    def test_branches_of_other_forms(self):
        for branches in (None, 0, "", [], {}, [("none", (), 1)], {"none": 1}, ("none", (), 1), (None,), ((),),
                         (("none", ()),), (("none", (), 1, 1),), (["none", (), 1],), ("abc",), ({0: "none"},)):
            self.wrong(self.call(0, "get", (), branches))

    def test_replies_that_the_operation_has_in_some_mode(self):
        # "late" is a reply of the last mode only, "none" of the first one.
        self.good(self.call(1, "sync", (), (("late", (), 1), ("ok", (), 1))))
        self.good(self.call(2, "both", (), (("are", (0, 1), 1), ("none", (), 1))))
        for reply in ("ok", "full", "never", "Is", "", "abcdefghi", None, 0, True, ("none",), ["none"], {}):
            self.wrong(self.call(0, "get", (), ((reply, (), 1),)))
        self.wrong(self.call(1, "put", (0,), (("late", (), 1),)))
        self.good(self.call(1, "put", (0,), (("full", (), 1),)))
        self.wrong(self.call(0, "put", (0,), (("full", (), 1),)))

    def test_outputs(self):
        for outputs in ((0,), (1,), (2,), (10 ** 39,)):
            self.good(self.call(0, "get", (), (("is", outputs, 1),)))
        for outputs in ((), (0, 1), (0, 0), (-1,), (True,), (False,), [0], {0: 0}, 0, "0", None, ((0,),)):
            self.wrong(self.call(0, "get", (), (("is", outputs, 1),)))
        for outputs in ((0, 1), (1, 0), (5, 0), (6, 10 ** 39)):
            self.good(self.call(2, "both", (), (("are", outputs, 1),)))
        for outputs in ((0, 0), (1, 1), (0,), (0, 1, 2), (0, True), (10 ** 39, 10 ** 39), (0, -1)):
            self.wrong(self.call(2, "both", (), (("are", outputs, 1),)))
        self.wrong(self.call(0, "get", (), (("none", (0,), 1),)))


class VariableTest(LayerTestCase):
    def reads(self, variable):
        """Return instructions of each kind that read the variable."""
        return (
            ("call", 0, "put", (variable,), ()), ("call", 2, "set", (0, variable), ()),
            ("move", (0,), (variable,)), ("move", (0, 1), (0, variable)), ("move", (variable,), (variable,)),
            ("return", "ok", (variable,)), ("return", "ok", (0, variable)),
        )

    def test_arguments(self):
        for arity in (0, 1, 2):
            for variable in (0, 1, 2):
                layer = with_program(arity, ("return", "ok", (variable,)))
                self.assertEqual(self.is_layer(layer), variable < arity)
                layer = with_program(arity, ("call", 0, "put", (variable,), ()), RETURN)
                self.assertEqual(self.is_layer(layer), variable < arity)
                layer = with_program(arity, ("move", (7,), (variable,)), ("return", "ok", (7,)))
                self.assertEqual(self.is_layer(layer), variable < arity)
        self.wrong(with_recovery(("move", (0,), (0,)), UP), with_recovery(("call", 0, "put", (0,), ()), UP))

    def test_set_by_moves(self):
        for read in self.reads(5):
            self.good(with_program(1, ("move", (5,), (0,)), read, RETURN))
            self.good(with_program(1, ("move", (3, 5), (0, 0)), ("move", (), ()), read, RETURN))
            self.wrong(with_program(1, ("move", (3,), (0,)), read, RETURN))
            self.wrong(with_program(1, ("move", (), ()), read, RETURN))
            self.wrong(with_program(1, read, ("move", (5,), (0,)), RETURN))
        # All at once: the first output is no input of the same move yet.
        self.wrong(with_program(1, ("move", (5, 6), (0, 5)), RETURN))
        self.wrong(with_program(1, ("move", (5,), (5,)), RETURN))
        self.good(with_program(1, ("move", (5,), (0,)), ("move", (6,), (5,)), ("return", "ok", (6, 5))))

    def test_set_by_one_branch(self):
        for read in self.reads(5):
            self.good(with_program(1, get(("is", (5,), 2), ("none", (), 1)), RETURN, read, RETURN))
            self.wrong(with_program(1, get(("is", (5,), 2), ("none", (), 1)), read, read, RETURN))
            self.wrong(with_program(1, get(("is", (4,), 2), ("none", (), 1)), RETURN, read, RETURN))
        # A call reads its inputs before a branch sets its outputs.
        put_and_set = ("call", 1, "get", (), (("is", (5,), 1),))
        self.good(with_recovery(put_and_set, ("call", 0, "put", (5,), ()), UP))
        swap = ((0, 1), (("swap", 1),), (((("no", (0,), 1, (0,)),),), ((("ok", (0,), 1, (1,)),),)),
                (((0, ()),), ((1, (0,)),)))
        call = ("call", 0, "swap", (5,), (("no", (5,), 1), ("ok", (5,), 1)))
        self.wrong(with_program(1, call, RETURN, lowers=(swap,)))
        self.good(with_program(1, ("move", (5,), (0,)), call[:4] + ((("no", (5,), 2), ("ok", (5,), 2)),), RETURN,
                               lowers=(swap,)))

    def test_branches_that_meet(self):
        for read in self.reads(5):
            self.wrong(with_program(1, get(("is", (5,), 1), ("none", (), 1)), read, RETURN))
            self.good(with_program(1, get(("is", (5,), 2), ("none", (), 1)), ("move", (5,), (0,)), read, RETURN))
            self.wrong(with_program(1, get(("is", (5,), 2), ("none", (), 1)), ("move", (4,), (0,)), read, RETURN))
            self.wrong(with_program(1, get(("is", (5,), 1), ("none", (), 2)), ("move", (5,), (0,)), read, RETURN))
            both = (("are", (5, 6), 1), ("none", (), 2))
            tail = (("jump", 3), ("move", (6,), (0,)), read, RETURN)
            self.wrong(with_program(1, ("call", 2, "both", (), both), *tail))
            tail = (("jump", 3), ("move", (5,), (0,)), read, RETURN)
            self.good(with_program(1, ("call", 2, "both", (), both), *tail))
            # Set ahead of the branches, and once more on one of them.
            self.good(with_program(1, ("move", (5,), (0,)), get(("is", (5,), 2), ("none", (), 2)), read, RETURN))

    def test_different_variables_on_paths_that_meet(self):
        call = get(("is", (5,), 1), ("none", (), 2))
        for variable, good in ((5, False), (6, False), (0, True)):
            self.assertEqual(self.is_layer(with_program(
                1, call, ("jump", 3), ("move", (6,), (0,)), ("return", "ok", (variable,)))), good)

    def test_jumps_go_around_what_sets(self):
        for read in self.reads(5):
            self.wrong(with_program(1, ("jump", 2), ("move", (5,), (0,)), read, RETURN))
            self.good(with_program(1, ("jump", 1), ("move", (5,), (0,)), read, RETURN))
            self.good(with_program(1, ("move", (5,), (0,)), ("jump", 3), ("move", (), ()), read, RETURN))

    def test_a_path_of_branches_as_written(self):
        # In mode 0 the reply is always "none", but the branch of "is" is a path all the same.
        for read in self.reads(5):
            self.wrong(with_program(1, get(("is", (4,), 1)), read, RETURN))
            self.good(with_program(1, get(("is", (5,), 1)), read, RETURN))

    def test_instructions_that_no_path_reaches(self):
        for read in self.reads(5):
            for before in (RETURN, ("jump", 2), get(("none", (), 2)), get()):
                self.good(with_program(1, before, read, RETURN))
                self.good(with_program(1, before, ("jump", 2), RETURN))
                self.wrong(with_program(1, before, read[:-1], RETURN))
            # Nor do they bring anything, whatever they set, or keep others from it.
            self.good(with_program(1, get(("is", (5,), 3)), ("move", (4,), (9,)), ("jump", 3), read, RETURN))
            self.good(with_program(1, get(("is", (5,), 3)), get(("is", (4,), 3)), ("move", (3,), (8,)), read, RETURN))
            self.wrong(with_program(1, ("jump", 2), ("move", (5,), (0,)), read, RETURN))
        self.wrong(with_program(1, RETURN, ("move", (5,), (True,)), RETURN))
        self.wrong(with_program(1, RETURN, ("jump", 1), RETURN), with_program(1, RETURN, ("jump", 3), RETURN))
        self.wrong(with_program(1, RETURN, get(("none", (0,), 2)), RETURN))
        self.wrong(with_recovery(get(("none", (), 2)), RETURN, UP))

    def test_a_call_without_branches_ends_all_paths(self):
        self.good(with_recovery(get(), ("call", 0, "put", (8,), ()), UP))
        self.good(with_recovery(("jump", 1), get(), ("move", (1,), (8,)), UP))

    def test_moves(self):
        self.good(*[with_program(2, ("move", outputs, inputs), RETURN) for outputs, inputs in (
            ((), ()), ((0,), (1,)), ((0,), (0,)), ((0, 1), (1, 0)), ((1, 2), (0, 0)), ((9, 10 ** 39), (1, 1)),
        )])
        self.wrong(*[with_program(2, ("move", outputs, inputs), RETURN) for outputs, inputs in (
            ((0,), ()), ((), (0,)), ((0, 1), (0,)), ((0,), (0, 1)), ((0, 0), (0, 1)), ((3, 3), (0, 0)),
            ((3, 4, 3), (0, 1, 0)), ((-1,), (0,)), ((0,), (-1,)), ((True,), (0,)), ((0,), (False,)), ([0], (0,)),
            ((0,), [0]),
            (0, 0), ("", ""), ("a", "b"), (None, None), ((None,), (0,)), ((0,), ("0",)), ({}, {}), ({0: 0}, (0,)),
        )])
        for wrong in (("move",), ("move", ()), ("move", (), (), ()), ["move", (), ()]):
            self.wrong(with_recovery(wrong, UP), with_recovery(UP, wrong, UP))

    def test_great_numbers(self):
        top = 10 ** 39
        self.good(with_program(1, ("move", (top,), (0,)), ("return", "ok", (top, top))))
        self.wrong(with_program(1, ("move", (top,), (0,)), ("return", "ok", (top + 1,))))


class ChangedLayersTest(LayerTestCase):
    def test_other_kinds_at_any_depth(self):
        def other_kinds(part):
            if isinstance(part, tuple):
                return [list(part), dict(enumerate(part)), None, str(part)]
            if isinstance(part, int):
                return [bool(part), str(part), None, (part,), [part], -1 - part]
            return [part.upper(), part + " ", (part,), [part], 0, None, tuple(part), {part: part}]

        for layer in LAYERS:
            for thing in all_swaps(layer, other_kinds):
                self.assertIs(is_layer(thing), False, thing)

    def test_parts_removed_repeated_or_added_at_any_depth(self):
        extras = ((), 0, "ok", None, UP, RETURN, ("jump", 1), ("ok", (), 1), (0, ()))

        def other_parts(part):
            if not isinstance(part, tuple):
                return []
            copies = [part[:at] + part[at + 1:] for at in range(len(part))]
            copies += [part[:at] + part[at:at + 1] + part[at:] for at in range(len(part))]
            copies += [part[::-1]]
            return copies + [part[:at] + (extra,) + part[at:] for extra in extras for at in (0, len(part))]

        for layer in (GOOD, TWICE, MOVES, FIVE):
            found = [self.is_layer((layer[0], layer[1]) + thing) for thing in all_swaps(layer[2:], other_parts)]
            self.assertEqual(set(found), {True, False})
        for thing in all_swaps(GOOD, other_parts):
            self.is_layer(thing)

    def test_integers_and_names_replaced(self):
        def others(part):
            if isinstance(part, int):
                return [number for number in range(-1, 8) if number != part]
            return ["a", "ok", "is", "none", "put", "up", "return", "jump", "move"] if isinstance(part, str) else []

        for layer in LAYERS:
            found = [self.is_layer((layer[0], layer[1]) + thing) for thing in all_swaps(layer[2:], others)]
            self.assertIn(False, found)

    def test_random_layers(self):
        source = random.Random(11)
        found = []
        for layer in random_layers(10, 600):
            self.good(layer)
            # The program of another layer, an instruction of another place, a number of its own.
            other = random_program(source, layer[1], source.randrange(3), [("ok", 0), ("no", 1)])
            found.append(self.is_layer(layer[:2] + ((other,) * len(layer[2]),) + layer[3:]))
            moved = layer[3][source.randrange(len(layer[3])):] + layer[3]
            found.append(self.is_layer(layer[:3] + (moved,)))
            things = all_swaps(layer[2:], lambda part: [1, 2] if type(part) is int else [])
            found.append(self.is_layer(layer[:2] + source.choice(things or [layer[2:]])))
        self.assertGreater(found.count(True), 300)
        self.assertGreater(found.count(False), 300)


class LargeLayersTest(unittest.TestCase):
    """Values with about 30,000 parts, and ones whose paths are too many to be followed one by one."""

    def setUp(self):
        self.started = time.monotonic()

    def tearDown(self):
        self.assertLess(time.monotonic() - self.started, 20)

    def test_many_paths(self):
        for count in (15, 60, 1500):
            calls = tuple(get(("is", (at,), at + 1), ("none", (), at + 1)) for at in range(count))
            self.assertIs(is_layer(with_recovery(*calls, UP)), True)
            self.assertIs(is_layer(with_recovery(*calls, ("call", 0, "put", (0,), ()), UP)), False)
            self.assertIs(is_layer(with_program(1, *calls, ("return", "ok", (0,)))), True)
            self.assertIs(is_layer(with_program(1, *calls, ("return", "ok", (1,)))), False)

    def test_many_moves(self):
        moves = tuple(("move", (at + 1,), (at,)) for at in range(4900))
        self.assertIs(is_layer(with_program(1, *moves, ("return", "ok", (4900,)))), True)
        self.assertIs(is_layer(with_program(1, *moves, ("return", "ok", (4901,)))), False)
        wide = (("move", tuple(range(2, 9000)), (0, 1) * 4499),)
        self.assertIs(is_layer(with_program(2, *wide, ("return", "ok", (8999,)))), True)
        self.assertIs(is_layer(with_program(2, *wide, ("return", "ok", (9000,)))), False)
        twice = (("move", tuple(range(9000)) + (8999,), (0,) * 9001),)
        self.assertIs(is_layer(with_program(2, *twice, RETURN)), False)

    def test_many_jumps_with_many_variables(self):
        jumps = tuple(("jump", at + 2) for at in range(6000))
        wide = (("move", tuple(range(3000)), (0,) * 3000),)
        self.assertIs(is_layer(with_program(1, *wide, *jumps, ("return", "ok", (2999,)))), True)
        self.assertIs(is_layer(with_program(1, *wide, *jumps, ("return", "ok", (3000,)))), False)

    def test_many_branches(self):
        letters = "abcdefghijklm"
        replies = [a + b + c for a in letters for b in letters for c in letters]
        spec = ((0,), (("ask", 1),), ((tuple((reply, (0,), 0, ()) for reply in replies),),), (((0, ()),),))
        branches = tuple((reply, (at,), 1) for at, reply in enumerate(replies))
        call = ("call", 0, "ask", (0,), branches)
        self.assertIs(is_layer(with_program(1, call, RETURN, lowers=(spec,))), True)
        self.assertIs(is_layer(with_program(1, call, ("return", "ok", (0,)), lowers=(spec,))), True)
        self.assertIs(is_layer(with_program(1, call, ("return", "ok", (1,)), lowers=(spec,))), False)
        out_of_order = call[:4] + (branches[:-2] + branches[:-3:-1],)
        self.assertIs(is_layer(with_program(1, out_of_order, RETURN, lowers=(spec,))), False)

    def test_many_lower_specs(self):
        calls = tuple(("call", at, "ping", (), (("ok", (), at + 1),)) for at in range(1000))
        self.assertIs(is_layer(with_recovery(*calls, UP, lowers=(PING,) * 1000)), True)
        self.assertIs(is_layer(with_recovery(*calls, UP, lowers=(PING,) * 999)), False)

    def test_other_large_values(self):
        for thing in (((),) * 29990, "a" * 8000, (PING, (PING,), ((),) * 29000, (UP,)), [GOOD] * 700,
                      (SILENT, (SILENT,), (), (UP,) * 14000 + (0,)), {at: UP for at in range(14000)}):
            self.assertIs(is_layer(thing), False)
        self.assertIs(is_layer((SILENT, (SILENT,), (), (UP,) * 14000)), True)
