import random
import time
import unittest

from eachheight import shell as shell_module
from eachheight.checking import check_layer
from eachheight.errors import (
    InvalidArguments, InvalidCommand, Mismatch, NameTaken, SystemDown, SystemUp, TooManyStates, UnhandledReply,
    UnknownName, UnknownNode, UnknownOperation,
)
from eachheight.shell import Shell
from eachheight.systems import System
from eachheight.texts import format_layer, format_spec
from eachheight.trees import tree_nodes
from tests.layer_samples import ASKEW, BAD, GOOD, LAYERS, TWICE, call_and_return, wheel_layer
from tests.samples import CACHE, CELL, ODD_VALUES, PAIR, PING, SILENT, SPECS, nested
from tests.tree_samples import BASE, HIGH, LOW, MIXED, TREE, WIDE, twice
from tests.test_texts import WORDY, wordy_layer

UP = ("up",)
PING_LINE = "spec p slots 0 ; operations ping 0 ; outcome 0 ping ok to 0 ; crash 0 to 0"


def spec_line(name, spec):
    return f"spec {name} " + format_spec(spec).replace("\n", " ; ")


def layer_line(name, layer):
    return f"layer {name} " + format_layer(layer).replace("\n", " ; ")


class ShellTestCase(unittest.TestCase):
    def shell(self):
        """Return a shell with some specs and layers."""
        shell = Shell()
        for name, spec in (("ping", PING), ("cell", CELL), ("cache", CACHE), ("pair", PAIR), ("silent", SILENT)):
            self.assertEqual(shell.run(spec_line(name, spec)), "ok")
        for name, layer in (("good", GOOD), ("bad", BAD), ("twice", TWICE), ("askew", ASKEW)):
            self.assertEqual(shell.run(layer_line(name, layer)), "ok")
        return shell

    def raises(self, shell, line, error, **attributes):
        with self.assertRaises(error, msg=repr(line)) as caught:
            shell.run(line)
        self.assertIs(type(caught.exception), error, line)
        for name, value in attributes.items():
            self.assertEqual(repr(getattr(caught.exception, name)), repr(value), line)

    def no_commands(self, shell, *lines):
        for line in lines:
            self.raises(shell, line, InvalidCommand)

    def answers(self, shell, *pairs):
        for line, answer in pairs:
            found = shell.run(line)
            self.assertIs(type(found), str)
            self.assertEqual(found, answer, line)

    def name_parts(self, shell, tree, words, names):
        thing = tree[1]
        if thing not in names:
            names[thing] = "n" + "abcdefghijkl"[len(names)]
            line = spec_line if tree[0] == "base" else layer_line
            self.answers(shell, (line(names[thing], thing), "ok"))
        words += ["base" if tree[0] == "base" else "over", names[thing]]
        for child in tree[2:] and tree[2]:
            self.name_parts(shell, child, words, names)


class ExampleTest(ShellTestCase):
    def test_example_of_the_interface(self):
        shell = Shell()
        self.assertEqual(shell.run(PING_LINE), "ok")
        self.assertEqual(shell.run("system s base p"), "ok")
        self.assertEqual([shell.run("call s ping"), shell.run("steps s"), shell.run("candidates s")], ["ok", "1", "0"])

    def test_parameters_have_their_names(self):
        self.assertEqual(Shell().run(line=PING_LINE), "ok")
        self.assertIn("run", vars(Shell))
        self.assertEqual(shell_module.Shell.__module__, "eachheight.shell")


class SpecsAndLayersTest(ShellTestCase):
    def test_all_samples(self):
        shell = Shell()
        for number, spec in enumerate(SPECS + (WORDY,)):
            self.answers(shell, (spec_line("abcdefg"[number], spec), "ok"))
        for number, layer in enumerate(LAYERS + (wordy_layer(),)):
            name = "abcdefghijklmnop"[number]
            self.answers(shell, (layer_line(name, layer), "ok"), (f"check {name}", check_layer(layer)[0]))

    def test_too_many_states(self):
        shell = Shell()
        self.answers(shell, (layer_line("most", wheel_layer(6, 5, 5)), "ok"), ("check most", "valid"))
        self.answers(shell, (layer_line("more", wheel_layer(6, 6, 5)), "ok"))
        self.raises(shell, "check more", TooManyStates, max_states=300)

    def test_texts_that_are_none(self):
        shell = Shell()
        for line in (
            "spec p", "spec", "layer p", "layer", "spec p slots", PING_LINE + " ;", PING_LINE + " ; ",
            PING_LINE + " ; x",
            PING_LINE.replace(" ; ", " ", 1), PING_LINE.replace(" ; ", ";", 1), PING_LINE.replace(" ; ", " ; ; ", 1),
            PING_LINE.replace(" ; ", " ;", 1), PING_LINE.replace(" ; ", "; ", 1), PING_LINE.replace(" ; ", "\n"),
            PING_LINE.replace(" ; ", " \n "), "spec p ; " + PING_LINE[7:], PING_LINE.replace("spec", "layer"),
            PING_LINE.replace("0", "00", 1), PING_LINE[:-2], PING_LINE + " 0", PING_LINE.replace(" p ", " "),
            layer_line("p", GOOD).replace("layer", "spec"), layer_line("p", GOOD) + " ; jump 1",
            layer_line("p", GOOD)[:-5],
            PING_LINE.replace(" p ", " p p "), PING_LINE.replace(" p ", " p  "),
        ):
            self.no_commands(shell, line)
        # The name has not been taken.
        self.answers(shell, (PING_LINE, "ok"), (layer_line("p", GOOD), "ok"))

    def test_names(self):
        shell = Shell()
        for name in ("", "P", "p1", "abcdefghi", "p-", "1", "p;", ";"):
            self.no_commands(shell, spec_line(name, PING), layer_line(name, GOOD), f"check {name}",
                f"system {name} base p")
        self.answers(shell, (spec_line("abcdefgh", PING), "ok"), ("system abcdefgh base abcdefgh", "ok"))
        # Words of commands are names, too.
        for name in ("spec", "layer", "base", "over", "system", "call", "check", "steps", "to"):
            self.answers(shell, (spec_line(name, PING), "ok"), (layer_line(name, GOOD), "ok"),
                (f"check {name}", "valid"))
            self.answers(shell, (f"system {name} over {name} base {name}", "ok"), (f"call {name} ping", "ok"))

    def test_taken_names(self):
        shell = self.shell()
        for name in ("ping", "cell"):
            for spec in (PING, CELL, PAIR):
                self.raises(shell, spec_line(name, spec), NameTaken, name=name)
        for layer in (GOOD, BAD, TWICE):
            self.raises(shell, layer_line("good", layer), NameTaken, name="good")
        self.answers(shell, ("check good", "valid"), ("check bad", "invalid"))
        # What is no command is none, whatever its name.
        self.no_commands(shell, "spec ping slots", "layer good up", "spec ping", spec_line("ping", PING) + " x")

    def test_each_kind_has_its_own_names(self):
        shell = Shell()
        self.answers(
            shell, (spec_line("same", CELL), "ok"), (layer_line("same", TWICE), "ok"),
            ("system same over same base same base same", "ok"), ("call same put 7", "ok"), ("steps same", "2"),
            ("check same", "valid"),
        )
        self.raises(shell, spec_line("same", PING), NameTaken, name="same")
        self.raises(shell, layer_line("same", GOOD), NameTaken, name="same")
        self.raises(shell, "system same base same", NameTaken, name="same")
        # A layer is no spec, and a spec is no layer.
        self.answers(shell, (spec_line("one", PING), "ok"), (layer_line("two", GOOD), "ok"))
        self.raises(shell, "system t base two", UnknownName, name="two")
        self.raises(shell, "system t over one base one", UnknownName, name="one")
        self.raises(shell, "check one", UnknownName, name="one")
        self.raises(shell, "call one ping", UnknownName, name="one")
        self.raises(shell, "steps two", UnknownName, name="two")


class TreesTest(ShellTestCase):
    def test_trees(self):
        shell = self.shell()
        self.answers(
            shell, ("system a base cell", "ok"), ("system b over good base ping", "ok"),
            ("system c over twice base cell base cell", "ok"),
            ("system d over twice over twice base cell base cell base cell", "ok"),
            ("system e over twice base cell over twice base cell base cell", "ok"),
            ("system f over twice over twice over twice base cell base cell base cell over twice base cell base cell",
            "ok"),
        )
        for name, count in zip("acdef", (1, 2, 3, 3, 5)):
            self.answers(shell, (f"call {name} put 7", "ok"), (f"steps {name}", str(count)),
                (f"call {name} get", "is 7"))
        for line, node in (("candidates d 0 1", True), ("candidates d 1", True), ("candidates e 1 1", True),
                           ("candidates f 0 0 1", True), ("candidates d 1 0", False), ("candidates e 0 0", False)):
            if node:
                self.answers(shell, (line, "1 7"))
            else:
                with self.assertRaises(UnknownNode):
                    shell.run(line)

    def test_all_sample_trees(self):
        for tree in (TREE, BASE, LOW, HIGH, WIDE, MIXED, twice(LOW, BASE)):
            shell = Shell()
            words, names = [], {}
            self.name_parts(shell, tree, words, names)
            self.answers(shell, ("system s " + " ".join(words), "ok"))
            for node in tree_nodes(tree):
                self.answers(shell, (" ".join(["candidates", "s"] + [str(k) for k in node]), "0"))

    def test_no_pairs(self):
        shell = self.shell()
        self.no_commands(
            shell, "system s", "system", "system s base", "system s over", "system s cell", "system s base cell over",
            "system s base cell cell", "system s Base cell", "system s under good base ping", "system s base CELL",
            "system s base cell x", "system base cell", "system s s base cell", "system s over twice base cell base",
            "system s over good base ping ;", "system s base 0", "system s base cell 0 0", "system s (base cell)",
        )
        # Even if the system is there, or a name is unknown.
        self.answers(shell, ("system s base cell", "ok"))
        self.no_commands(shell, "system s", "system s base", "system s cell", "system s base nobody x",
            "system s base Nobody")

    def test_children_missing_or_left_over(self):
        shell = self.shell()
        for tree in (
            "over good", "over twice", "over twice base cell", "over twice over twice base cell base cell",
            "over twice base cell over twice base cell", "base cell base cell", "base cell over good base ping",
            "over good base ping base ping", "over twice base cell base cell base cell",
            "over twice over twice base cell base cell base cell base cell", "over good over good",
            "over good base ping over good",
            # These do not match, too.
            "over good base cell base cell", "over twice base ping", "over twice base ping base ping base ping",
            "over twice over good base cell", "over good base cell over twice",
        ):
            self.no_commands(shell, f"system s {tree}")
        self.raises(shell, "steps s", UnknownName, name="s")

    def test_unknown_names(self):
        shell = self.shell()
        for tree, name in (
            ("base nobody", "nobody"), ("over nobody", "nobody"), ("over nobody base cell", "nobody"),
            ("over good base nobody", "nobody"), ("over one base two", "one"), ("over twice base two over one", "two"),
            ("over twice base cell base three", "three"), ("base good", "good"), ("over cell", "cell"),
            ("over ping base ping", "ping"), ("base cell base one base two", "one"),
            # Children are missing or do not match, too.
            ("over twice base nobody", "nobody"), ("over twice base ping base nobody", "nobody"),
            ("over good base cell base nobody", "nobody"),
        ):
            self.raises(shell, f"system s {tree}", UnknownName, name=name)

    def test_taken_before_unknown(self):
        shell = self.shell()
        self.answers(shell, ("system s base cell", "ok"))
        for tree in ("base cell", "base nobody", "over nobody base cell", "over good", "over good base cell",
            "base cell base cell"):
            self.raises(shell, f"system s {tree}", NameTaken, name="s")
        self.no_commands(shell, "system s base", "system s")

    def test_mismatches(self):
        shell = self.shell()
        for tree, position in (
            ("over good base cell", 0), ("over twice base ping base cell", 0), ("over twice base cell base ping", 1),
            ("over twice base ping base ping", 0), ("over twice over good base ping base cell", 0),
            ("over twice base cell over good base ping", 1),
            # The layers that are complete first: inner ones, and earlier ones.
            ("over twice base ping over twice base cell base ping", 1),
            ("over twice over twice base cell base ping base ping", 1),
            ("over twice over twice base cell base ping over twice base ping base cell", 1),
            ("over twice over twice base ping base cell over twice base cell base ping", 0),
            ("over good over twice base cell base ping", 1), ("over good over twice base cell base cell", 0),
            ("over twice base cache base cell", 0), ("over twice base cell base cache", 1),
        ):
            self.raises(shell, f"system s {tree}", Mismatch, position=position)
        self.raises(shell, "steps s", UnknownName, name="s")
        self.answers(shell, ("system s base cell", "ok"))


class SystemsTest(ShellTestCase):
    def cells(self):
        shell = self.shell()
        self.answers(shell, ("system s over twice base cell base cell", "ok"), ("system c base cell", "ok"))
        return shell

    def test_calls_and_crashes(self):
        self.answers(
            self.cells(), ("call s get", "none"), ("call s put 7", "ok"), ("call s get", "is 7"), ("steps s", "4"),
            ("candidates s", "1 7"), ("schedule s 2", "ok"), ("call s put 8", "-"), ("candidates s", "1 7 / 1 8"),
            ("candidates s 0", "1 8"), ("candidates s 1", "1 7 / 1 8"), ("steps s", "5"), ("recover s", "yes"),
            ("steps s", "7"), ("call s get", "is 8"), ("candidates s", "1 8"), ("crash s", "ok"),
            ("schedule s 2", "ok"),
            ("recover s", "no"), ("recover s", "yes"), ("schedule s 1 completed", "ok"), ("call s put 9", "-"),
            ("recover s", "yes"), ("call s get", "is 9"),
        )

    def test_answers(self):
        shell = self.shell()
        self.answers(
            shell, ("system p base pair", "ok"), ("candidates p", "0"), ("call p both", "none"),
            ("call p set 3 4", "ok"),
            ("candidates p", "1 3 4 / 1 4 3"), ("call p both", "are 3 4"), ("call p set 0 1000000000", "ok"),
            ("call p both", "are 0 1000000000"), ("call p set 5 0", "ok"), ("crash p", "ok"),
            ("candidates p", "0 / 1 0 0 / 1 0 5 / 1 5 0 / 1 5 5"), ("recover p", "yes"),
            ("call p both", "none"), ("steps p", "7"),
        )

    def test_no_choices(self):
        shell = self.shell()
        self.answers(shell, ("system c base cache", "ok"))
        system = System(("base", CACHE))
        for number in range(3):
            reply, _ = system.call("put", (number,))
            self.answers(shell, (f"call c put {number}", reply))

    def test_no_candidates(self):
        shell = self.shell()
        self.answers(shell, ("system b over bad base ping", "ok"), ("call b ping", "no"), ("candidates b", "none"),
                     ("candidates b 0", "0"))

    def test_systems_are_not_mixed_up(self):
        shell = self.cells()
        self.answers(shell, ("call s put 7", "ok"), ("call c get", "none"), ("steps c", "1"), ("steps s", "2"))
        other = self.cells()
        self.answers(other, ("call s get", "none"))
        self.answers(shell, ("call s get", "is 7"))

    def test_unknown_names(self):
        shell = self.cells()
        for line in ("call x get", "call x never 1 2 3", "recover x", "crash x", "schedule x 1",
            "schedule x 1 completed",
                     "steps x", "candidates x", "candidates x 0 9", "check x"):
            self.raises(shell, line, UnknownName, name="x")

    def test_errors_of_systems(self):
        shell = self.cells()
        self.raises(shell, "recover s", SystemUp)
        self.raises(shell, "call s never", UnknownOperation, op="never")
        self.raises(shell, "call s never 1 2 3", UnknownOperation, op="never")
        self.raises(shell, "call s put", InvalidArguments, arguments=())
        self.raises(shell, "call s put 1 2", InvalidArguments, arguments=(1, 2))
        self.raises(shell, "call s put 1000000001", InvalidArguments, arguments=(1000000001,))
        self.raises(shell, "call s put 9999999999", InvalidArguments, arguments=(9999999999,))
        self.raises(shell, "call s get 0", InvalidArguments, arguments=(0,))
        for words, node in (("2", (2,)), ("0 0", (0, 0)), ("9999999999", (9999999999,)), ("0 1 2", (0, 1, 2))):
            self.raises(shell, f"candidates s {words}", UnknownNode, node=node)
        self.answers(shell, ("steps s", "0"), ("crash s", "ok"))
        self.raises(shell, "crash s", SystemDown)
        self.raises(shell, "call s never", SystemDown)
        self.raises(shell, "call s put 1000000001", SystemDown)
        self.answers(shell, ("candidates s", "0"), ("steps s", "0"), ("schedule s 1", "ok"), ("recover s", "no"))

    def test_unhandled_replies(self):
        shell = self.shell()
        self.answers(shell, ("system a over twice over askew base cell base cell base cell", "ok"),
            ("call a put 7", "ok"))
        self.answers(shell, ("crash a", "ok"))
        self.raises(shell, "recover a", UnhandledReply, node=(0,))
        put = (("call", 0, "put", (0,), ()), ("return", "ok", ()))
        layer = (CELL, (CELL,), (call_and_return(CELL, "get"), put), (UP,))
        self.answers(shell, (layer_line("deaf", layer), "ok"), ("system d over deaf base cell", "ok"))
        self.raises(shell, "call d put 7", UnhandledReply, node=())
        # Everything has crashed.
        self.answers(shell, ("steps d", "1"), ("recover d", "yes"), ("call d get", "is 7"))

    def test_like_systems(self):
        source = random.Random(130)
        for tree in (LOW, HIGH, WIDE, MIXED):
            shell = Shell()
            words = []
            self.name_parts(shell, tree, words, {})
            shell.run("system s " + " ".join(words))
            system = System(tree)
            operations = (tree[1][0])[1]
            for _ in range(60):
                self.act_alike(source, shell, system, operations)
            for node in tree_nodes(tree):
                configs = system.candidates(node)
                answer = " / ".join(" ".join(map(str, (mode,) + values)) for mode, values in configs)
                self.answers(shell, (" ".join(["candidates", "s"] + [str(k) for k in node]), answer or "none"))

    def act_alike(self, source, shell, system, operations):
        kind = source.randrange(5)
        if kind == 0:
            step, completed = source.randint(1, 9), source.random() < 0.5
            system.schedule_crash(step, completed=completed)
            self.answers(shell, (f"schedule s {step}" + " completed" * completed, "ok"))
        elif system.is_down():
            self.answers(shell, ("recover s", "yes" if system.recover() else "no"))
        elif kind == 1:
            system.crash()
            self.answers(shell, ("crash s", "ok"))
        else:
            op, arity = source.choice(operations)
            arguments = tuple(source.randrange(99) for _ in range(arity))
            said = system.call(op, arguments)
            answer = "-" if said is None else " ".join([said[0]] + [str(value) for value in said[1]])
            self.answers(shell, (" ".join(["call", "s", op] + [str(value) for value in arguments]), answer))
        self.answers(shell, ("steps s", str(system.step_count())))


class CommandsTest(ShellTestCase):
    LINES = (
        "check good", "call s get", "call s put 7", "recover s", "crash s", "schedule s 3", "schedule s 3 completed",
        "steps s", "candidates s", "candidates s 0", "system t base cell", "system t over twice base cell base cell",
    )

    def with_system(self):
        shell = self.shell()
        shell.run("system s over twice base cell base cell")
        return shell

    def test_other_values(self):
        shell = self.with_system()
        self.no_commands(shell, *ODD_VALUES)
        self.no_commands(shell, *[nested(depth) for depth in range(30)])
        for line in self.LINES:
            self.no_commands(shell, [line], (line,), {line: line}, line.split(" "), line.upper(), line.capitalize())

    def test_blanks_and_line_feeds(self):
        shell = self.with_system()
        self.no_commands(shell, "", " ", "  ", "\n")
        for line in self.LINES + (PING_LINE, layer_line("other", GOOD)):
            self.no_commands(shell, " " + line, line + " ", line + "\n", "\n" + line, line.replace(" ", "  "),
                line.replace(" ", "\n"))
            for at, letter in enumerate(line):
                if letter == " ":
                    self.no_commands(shell, line[:at] + " " + line[at:], line[:at] + "\n" + line[at + 1:])
                self.no_commands(shell, line[:at] + "\n" + line[at:])

    def test_other_words(self):
        shell = self.with_system()
        self.no_commands(shell, "checks good", "chec good", "help", "steps", "spec", "good", "s", "0", "-",
            "calls s get", "exit")

    def test_too_few_and_too_many_words(self):
        shell = self.with_system()
        self.no_commands(
            shell, "check", "check good good", "check good bad", "check 0", "call", "call s", "call s 7",
            "call s put x",
            "call s get get", "call put 7", "recover", "recover s s", "recover s 1", "crash", "crash s s", "crash s 1",
            "schedule", "schedule s", "schedule s completed", "schedule s 1 2", "schedule s 1 completed 2",
            "schedule s 1 complete", "schedule s completed 1", "schedule 1 s", "schedule s one",
            "schedule s 1 completed completed",
            "steps", "steps s s", "steps s 0", "candidates", "candidates 0", "candidates s x", "candidates s 0 x",
            "candidates s s",
        )
        # Also if the system is not there.
        self.no_commands(shell, "call x", "recover x x", "schedule x", "schedule x 0", "steps x 1", "candidates x y")

    def test_names_that_are_none(self):
        shell = self.with_system()
        for name in ("S", "s1", "abcdefghi", "s-", "s;", "_"):
            for line in self.LINES:
                words = line.split(" ")
                self.no_commands(shell, " ".join([words[0], name] + words[2:]))
            self.no_commands(shell, f"call s {name}", f"system t base {name}", f"system t over {name} base cell")

    def test_numbers(self):
        shell = self.with_system()
        for number in ("00", "01", "-1", "+1", "1.0", "0x1", "1_0", "one", "1" * 11, "0" * 11, "1" * 40, "12345678901",
            "1,2"):
            self.no_commands(
                shell, f"call s put {number}", f"call s get {number}", f"call s never {number}", f"schedule s {number}",
                f"schedule s {number} completed", f"candidates s {number}", f"candidates s 0 {number}",
                f"call x put {number}",
            )
        self.no_commands(shell, "schedule s 0", "schedule s 0 completed", "schedule x 0")
        self.answers(shell, ("schedule s 9999999999", "ok"), ("call s put 0", "ok"), ("call s put 1000000000", "ok"))
        self.raises(shell, "call s put 9999999999", InvalidArguments, arguments=(9999999999,))

    def test_nothing_changes(self):
        shell = self.with_system()
        self.answers(shell, ("call s put 7", "ok"))
        for line, error in (
            ("call s put", InvalidArguments), ("call s never", UnknownOperation), ("recover s", SystemUp),
            ("candidates s 7", UnknownNode), ("system s base cell", NameTaken), (spec_line("cell", PING), NameTaken),
            (layer_line("twice", GOOD), NameTaken), ("system t over good base cell", Mismatch),
            ("steps t", UnknownName),
            ("system t over good", InvalidCommand),
        ):
            self.raises(shell, line, error)
        self.answers(shell, ("call s get", "is 7"), ("steps s", "3"), ("system t base cell", "ok"),
            ("call t get", "none"),
                     ("system u over twice base cell base cell", "ok"), ("call u put 7", "ok"))

    def test_arguments_stay(self):
        thing = [["steps"], {"s": [0]}]
        self.no_commands(self.shell(), thing)
        self.assertEqual(thing, [["steps"], {"s": [0]}])


class LimitsTest(ShellTestCase):
    def setUp(self):
        self.started = time.monotonic()

    def tearDown(self):
        self.assertLess(time.monotonic() - self.started, 30)

    def test_large_values(self):
        shell = self.shell()
        self.answers(shell, ("system s base cell", "ok"))
        for line in (
            "a" * 8000, "steps " + "s" * 7900, "call s put" + " 0" * 3900, "candidates s" + " 0" * 3900,
            "system t" + " over twice" * 700,
            "system t" + " over good" * 790, "system t" + " base cell" * 790,
            "system t over twice" + " base cell" * 790,
            "spec t " + "slots " * 1300, "layer t " + " ; up" * 1500, "schedule s " + "1" * 7900,
            "call s put " + "9" * 7900,
            ["steps s"] * 1000,
        ):
            with self.assertRaises((InvalidCommand, InvalidArguments, UnknownNode)) as caught:
                shell.run(line)
            if not isinstance(line, str) or line[:4] not in ("call", "cand") or "9" in line:
                self.assertIs(type(caught.exception), InvalidCommand, line[:30])

    def test_sixty_commands(self):
        shell = self.shell()
        self.answers(shell, ("system s over twice over twice base cell base cell over twice base cell base cell", "ok"))
        for number in range(15):
            self.answers(shell, (f"call s put {number}", "ok"), ("schedule s 3", "ok"),
                (f"call s put {99 - number}", "-"),
                         ("recover s", "yes"), ("candidates s", f"1 {number} / 1 {99 - number}"))
