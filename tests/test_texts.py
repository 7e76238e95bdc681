import random
import time
import unittest

from eachheight import texts
from eachheight.combining import compose_layers, identity_layer, product_layer
from eachheight.errors import InvalidText
from eachheight.layers import is_layer
from eachheight.specs import is_spec
from eachheight.texts import format_layer, format_spec, parse_layer, parse_spec
from tests.layer_samples import FIVE, GOOD, LAYERS, MOVES, TWICE, random_layers, random_spec, renamed, wheel_layer
from tests.samples import CACHE, CELL, ODD_VALUES, PAIR, PING, SILENT, SPECS, nested
from tests.tree_samples import CELLS

UP = ("up",)
PING_TEXT = "slots 0\noperations ping 0\noutcome 0 ping ok to 0\ncrash 0 to 0"
CELL_TEXT = """slots 0 1
operations get 0 put 1
outcome 0 get none to 0
outcome 0 put ok to 1 0
outcome 1 get is 0 to 1 0
outcome 1 put ok to 1 1
crash 0 to 0
crash 1 to 1 0"""
TWICE_TEXT = f"""upper
{CELL_TEXT}
lower
{CELL_TEXT}
lower
{CELL_TEXT}
program get
call 0 get
branch is 0 to 1
branch none to 2
return is 0
return none
program put
call 0 put 0
branch ok to 1
call 1 put 0
branch ok to 2
return ok
recovery
call 0 get
branch is 5 to 1
branch none to 2
call 1 put 5
branch ok to 2
up"""
# A spec whose names are words of the format.
WORDS = ("call", "crash", "from", "lower", "operations"[:8], "outcome", "program", "slots", "to", "up", "upper")
WORDY = (
    (0, 1), tuple((name, 1) for name in sorted(WORDS)),
    (
        tuple((("from", (0,), 1, (0,)), ("to", (), 0, ())) for _ in WORDS),
        tuple((("from", (1,), 0, ()), ("to", (), 1, (0,)), ("up", (0, 1), 1, (1,))) for _ in WORDS),
    ),
    (((0, ()),), ((0, ()), (1, (0,)))),
)


def wordy_layer():
    """Return a layer whose names are all words of the format."""
    program = (
        ("call", 0, "to", (0,), (("from", (1,), 1), ("to", (), 2), ("up", (4, 3), 3))), ("return", "up", (1,)),
        ("return", "return", ()), ("return", "recovery", (4, 3)),
    )
    return (WORDY, (WORDY,), (program,) * len(WORDS), (UP,))


class TextTestCase(unittest.TestCase):
    def no_text(self, parse, *things):
        for thing in things:
            with self.assertRaises(InvalidText, msg=repr(thing)) as caught:
                parse(thing)
            self.assertIs(type(caught.exception), InvalidText)

    def parsed(self, parse, write, thing):
        """Return what a value is the text of, or None; it is the only text of that."""
        try:
            found = parse(thing)
        except InvalidText:
            return None
        self.assertEqual(write(found), thing)
        return found


class SpecTextTest(TextTestCase):
    def test_examples_of_the_interface(self):
        self.assertEqual(format_spec(PING), "slots 0\noperations ping 0\noutcome 0 ping ok to 0\ncrash 0 to 0")
        self.assertIs(parse_spec("slots 0\noperations ping 0\noutcome 0 ping ok to 0\ncrash 0 to 0") == PING, True)
        self.no_text(parse_spec, "slots 00")

    def test_parameters_have_their_names(self):
        self.assertEqual(format_spec(spec=PING), PING_TEXT)
        self.assertEqual(parse_spec(text=PING_TEXT), PING)
        self.assertEqual(parse_layer(text=format_layer(layer=GOOD)), GOOD)

    def test_defined_in_the_file(self):
        for name in ("format_spec", "parse_spec", "format_layer", "parse_layer"):
            self.assertEqual(getattr(texts, name).__module__, "eachheight.texts")

    def test_texts(self):
        self.assertEqual(format_spec(CELL), CELL_TEXT)
        self.assertEqual(format_spec(SILENT), "slots 0\noperations\ncrash 0 to 0")
        self.assertEqual(format_spec(CACHE).split("\n")[-4:], [
            "crash 1 to 1 0", "crash 2 to 1 0", "crash 2 to 1 1", "crash 2 to 2 0 1",
        ])
        self.assertEqual(format_spec(PAIR).split("\n")[2:7], [
            "outcome 0 both none to 0", "outcome 0 set ok to 1 0 1", "outcome 0 set ok to 1 1 0",
            "outcome 0 swap no to 0",
            "outcome 1 both are 0 1 to 1 0 1",
        ])

    def test_there_and_back(self):
        for spec in SPECS + (WORDY, product_layer(CELLS)[0], product_layer((CACHE, renamed(PAIR, "b")))[0]):
            text = format_spec(spec)
            self.assertEqual(format_spec(spec), text)
            self.assertIs(type(text), str)
            found = parse_spec(text)
            self.assertEqual(repr(found), repr(spec))

    def test_random_specs(self):
        source = random.Random(120)
        for _ in range(300):
            spec = random_spec(source)
            self.assertEqual(repr(parse_spec(format_spec(spec))), repr(spec))

    def test_names_that_are_words_of_the_format(self):
        self.assertIs(is_spec(WORDY), True)
        lines = format_spec(WORDY).split("\n")
        self.assertIn("outcome 0 to to to 0", lines)
        self.assertIn("outcome 0 to from 0 to 1 0", lines)
        self.assertIn("outcome 1 up up 0 1 to 1 1", lines)
        self.assertEqual(parse_spec("\n".join(lines)), WORDY)

    def test_wrong_values(self):
        self.no_text(parse_spec, *ODD_VALUES)
        self.no_text(parse_spec, *[nested(depth) for depth in range(30)])
        self.no_text(parse_spec, [PING_TEXT], PING_TEXT.split("\n"), (PING_TEXT,), {PING_TEXT: 0}, PING, TWICE_TEXT,
            " ", "\n")

    def test_wrong_lines(self):
        for text in (
            "slots", "slots 0", "slots 0\noperations", "slots 0\ncrash 0 to 0", "operations\nslots 0\ncrash 0 to 0",
            "slots\noperations\ncrash 0 to 0", "slots 0 0\noperations\ncrash 0 to 0",
            "slots 1\noperations\ncrash 0 to 0 0",
            "slots 0\noperations\ncrash 0 to 1", "slots 0\noperations\ncrash 0 to 0 0",
            "slots 0\noperations\ncrash 0 0",
            "slots 0\noperations\ncrash to 0", "slots 0\noperations\ncrash 0 to", "slots 0\noperations\ncrash 0 0 to 0",
            "slots 0\noperations ping\noutcome 0 ping ok to 0\ncrash 0 to 0",
            "slots 0\noperations ping 0 pong\noutcome 0 ping ok to 0\ncrash 0 to 0",
            "slots 0\noperations ping 3\noutcome 0 ping ok to 0\ncrash 0 to 0",
            "slots 0\noperations ping zero\noutcome 0 ping ok to 0\ncrash 0 to 0",
            "slots 0\noperations Ping 0\noutcome 0 Ping ok to 0\ncrash 0 to 0",
            "slots 0\noperations ping 0\noutcome 0 pong ok to 0\ncrash 0 to 0",
            "slots 0\noperations ping 0\noutcome 1 ping ok to 0\ncrash 0 to 0",
            "slots 0\noperations ping 0\noutcome 0 ping to 0\ncrash 0 to 0",
            "slots 0\noperations ping 0\noutcome 0 ping ok 0\ncrash 0 to 0",
            "slots 0\noperations ping 0\noutcome 0 ping ok to to 0\ncrash 0 to 0",
            "slots 0\noperations ping 0\noutcome 0 ping ok to\ncrash 0 to 0",
            "slots 0\noperations ping 0\noutcome 0 ping ok 0 to 0\ncrash 0 to 0",
            "slots 0\noperations ping 0\noutcome\ncrash 0 to 0", "slots 0\noperations ping 0\noutcome 0\ncrash 0 to 0",
            "slots 0\noperations ping 0\ncrash 0 to 0\noutcome 0 ping ok to 0",
            "slots 0\noperations ping 0\ncrash 0 to 0", "slots 0\noperations ping 0\noutcome 0 ping ok to 0",
            "slots 0\noperations ping 0\noutcome 0 ping ok to 0\ncrash 0 to 0\ncrash 0 to 0",
            "slots 0\noperations ping 0\noutcome 0 ping ok to 0\noutcome 0 ping ok to 0\ncrash 0 to 0",
            "slots 0\noperations ping 0\noutcome 0 ping ok to 0\noutcome 0 ping no to 0\ncrash 0 to 0",
            "slots -0\noperations\ncrash 0 to 0", "slots +0\noperations\ncrash 0 to 0",
            "slots 0x0\noperations\ncrash 0 to 0",
            "slots 0\noperations\ncrush 0 to 0", "slots 0\noperations\nCrash 0 to 0",
            "Slots 0\noperations\ncrash 0 to 0",
            "slot 0\noperations\ncrash 0 to 0", "slots 0\noperation\ncrash 0 to 0", "slots 0\noperations\ncrash 0 To 0",
            "slots 0\noperations\ncrash 0 to 0;", "slots 0 ; operations ; crash 0 to 0",
            "slots 0_0\noperations\ncrash 0 to 0",
        ):
            self.no_text(parse_spec, text)

    def test_blanks_and_empty_lines(self):
        for text, parse in ((CELL_TEXT, parse_spec), (TWICE_TEXT, parse_layer)):
            self.no_text(parse, text + "\n", "\n" + text, text + " ", " " + text, text.replace("\n", "\n\n"))
            self.no_text(parse, text.replace("\n", " \n"), text.replace("\n", "\n "), text.replace(" ", "  "))
            for at, letter in enumerate(text):
                if letter in " \n":
                    self.no_text(parse, text[:at] + " " + text[at:], text[:at] + "\n" + text[at:])
                    self.no_text(parse, text[:at] + text[at + 1:])

    def test_leading_zeros(self):
        for text, parse in ((CELL_TEXT, parse_spec), (TWICE_TEXT, parse_layer)):
            for at, letter in enumerate(text):
                if letter.isdigit():
                    self.no_text(parse, text[:at] + "0" + text[at:], text[:at] + "+" + text[at:],
                        text[:at] + "-" + text[at:])

    def test_lines_words_and_characters(self):
        found = []
        for text, parse, write in (
            (CELL_TEXT, parse_spec, format_spec), (format_spec(PAIR), parse_spec, format_spec),
            (format_spec(WORDY), parse_spec, format_spec), (TWICE_TEXT, parse_layer, format_layer),
        ):
            expected = parse(text)
            for other in changed_texts(text):
                thing = self.parsed(parse, write, other)
                self.assertNotEqual(thing, expected)
                found.append(thing is not None)
        # Some of them are the texts of something else.
        self.assertGreater(found.count(True), 10)
        self.assertGreater(found.count(False), 3000)


def changed_texts(text):
    """Return texts with a line, a word or a character removed, repeated, exchanged or added."""
    others = set()
    for sign in ("\n", " ", ""):
        parts = text.split(sign) if sign else list(text)
        for at in range(len(parts)):
            others.add(sign.join(parts[:at] + parts[at + 1:]))
            others.add(sign.join(parts[:at] + parts[at:at + 1] + parts[at:]))
            others.add(sign.join(parts[:at] + parts[at + 1:at + 2] + parts[at:at + 1] + parts[at + 2:]))
            for extra in ("0", "to", "up", "crash 0 to 0", "1", " ", ""):
                others.add(sign.join(parts[:at] + [extra] + parts[at:]))
    return sorted(others - {text})


class LayerTextTest(TextTestCase):
    def test_examples_of_the_interface(self):
        self.assertEqual(
            format_layer(GOOD).split("\n")[10:],
            ["program ping", "call 0 ping", "branch ok to 1", "return ok", "recovery", "up"],
        )
        self.assertIs(parse_layer(format_layer(GOOD)) == GOOD, True)

    def test_texts(self):
        self.assertEqual(format_layer(TWICE), TWICE_TEXT)
        self.assertEqual(format_layer(GOOD).split("\n")[:10],
            ["upper"] + PING_TEXT.split("\n") + ["lower"] + PING_TEXT.split("\n"))
        lines = format_layer(MOVES).split("\n")
        self.assertIn("move 1 0 7 from 0 1 1", lines)
        self.assertIn("call 0 set 90 91", lines)
        self.assertIn("jump 4", lines)
        self.assertEqual(format_layer(FIVE).split("\n")[-6:], [
            "recovery", "call 3 both", "branch are 2 4 to 1", "branch none to 2", "move from", "up",
        ])

    def test_there_and_back(self):
        for layer in LAYERS + (wordy_layer(), product_layer(CELLS), wheel_layer(3, 4), identity_layer(WORDY),
                               compose_layers(TWICE, (TWICE, compose_layers(TWICE, (TWICE, TWICE))))):
            self.assertIs(is_layer(layer), True)
            text = format_layer(layer)
            self.assertEqual(format_layer(layer), text)
            self.assertEqual(repr(parse_layer(text)), repr(layer))

    def test_random_layers(self):
        for layer in random_layers(121, 400):
            self.assertEqual(repr(parse_layer(format_layer(layer))), repr(layer))

    def test_names_that_are_words_of_the_format(self):
        lines = format_layer(wordy_layer()).split("\n")
        for line in ("program program", "program to", "call 0 to 0", "branch to to 2", "branch from 1 to 1",
                     "branch up 4 3 to 3", "return up 1", "return return", "return recovery 4 3"):
            self.assertIn(line, lines)

    def test_wrong_values(self):
        self.no_text(parse_layer, *ODD_VALUES)
        self.no_text(parse_layer, *[nested(depth) for depth in range(30)])
        self.no_text(parse_layer, [TWICE_TEXT], TWICE_TEXT.split("\n"), (TWICE_TEXT,), TWICE, CELL_TEXT, "upper",
            "recovery")

    def test_parts_in_another_order(self):
        upper, lower = f"upper\n{PING_TEXT}", f"lower\n{PING_TEXT}"
        program, recovery = "program ping\ncall 0 ping\nbranch ok to 1\nreturn ok", "recovery\nup"
        self.assertEqual(parse_layer("\n".join([upper, lower, program, recovery])), GOOD)
        self.assertEqual(parse_layer("\n".join([upper, lower, lower, program, recovery]))[1], (PING, PING))
        for parts in (
            [lower, upper, program, recovery], [upper, program, lower, recovery], [upper, lower, recovery, program],
            [recovery, upper, lower, program], [upper, lower, program], [upper, lower, recovery],
            [upper, program, recovery],
            [lower, program, recovery], [upper, upper, lower, program, recovery],
            [upper, lower, program, program, recovery],
            [upper, lower, program, recovery, recovery], ["up", upper, lower, program, recovery],
            [upper, lower, program, recovery, upper], [upper, lower, program, recovery, lower],
        ):
            self.no_text(parse_layer, "\n".join(parts))

    def with_lines(self, program, recovery="up"):
        return f"upper\n{PING_TEXT}\nlower\n{PING_TEXT}\nprogram ping\n{program}\nrecovery\n{recovery}"

    def test_instructions(self):
        self.assertEqual(parse_layer(self.with_lines("return ok"))[2], ((("return", "ok", ()),),))
        program = (("move", (3,), (3,)), ("jump", 2), ("move", (), ()), ("return", "ok", ()))
        self.assertEqual(parse_layer(self.with_lines("jump 2\nmove 3 from 3\nmove from\nreturn ok"))[2][0],
                         (("jump", 2),) + program[:1] + program[2:])
        for lines in (
            "return", "return Ok", "return ok 0", "return ok ok", "return ok 0 0 0", "returns ok", "up", "jump 1\nup",
            "jump\nreturn ok", "jump 0\nreturn ok", "jump 2\nreturn ok", "jump one\nreturn ok", "jump 1 1\nreturn ok",
            "move\nreturn ok", "move 0 0\nreturn ok", "move 0 from 0\nreturn ok", "move from 0\nreturn ok",
            "move to\nreturn ok", "move from from\nreturn ok", "call\nreturn ok", "call 0\nreturn ok",
            "call ping\nreturn ok",
            "call 1 ping\nreturn ok", "call 0 pong\nreturn ok", "call 0 ping 0\nreturn ok", "branch ok to 1\nreturn ok",
            "jump 1\nbranch ok to 1\nreturn ok", "call 0 ping\nbranch\nreturn ok", "call 0 ping\nbranch ok\nreturn ok",
            "call 0 ping\nbranch ok 1\nreturn ok", "call 0 ping\nbranch ok to\nreturn ok",
            "call 0 ping\nbranch to 1\nreturn ok", "call 0 ping\nbranch ok to 0\nreturn ok",
            "call 0 ping\nbranch ok to 1 1\nreturn ok", "call 0 ping\nbranch ok 0 to 1\nreturn ok",
            "call 0 ping\nbranch ok to 1\nbranch ok to 1\nreturn ok", "return ok\nreturn", "", "return ok\n",
        ):
            self.no_text(parse_layer, self.with_lines(lines))
        for lines in ("", "up up", "return ok", "up 0", "ups", "up\nreturn ok", "jump 1"):
            self.no_text(parse_layer, self.with_lines("return ok", lines))
        self.assertEqual(parse_layer(self.with_lines("call 0 ping\nreturn ok"))[2][0][0], ("call", 0, "ping", (), ()))

    def test_forty_digits(self):
        for digits, good in ((1, True), (39, True), (40, True), (41, False), (80, False), (5000, False)):
            variable = "1" + "0" * (digits - 1)
            text = self.with_lines("return ok", f"call 0 ping\nbranch ok to 1\nmove {variable} from\nup")
            self.no_text(parse_layer, text)
            text = TWICE_TEXT.replace(" 5 ", f" {variable} ").replace(" 5\n", f" {variable}\n")
            layer = TWICE[:3] + ((
                ("call", 0, "get", (), (("is", (10 ** (digits - 1),), 1), ("none", (), 2))),
                ("call", 1, "put", (10 ** (digits - 1),), (("ok", (), 2),)),
                UP,
            ),)
            if good:
                self.assertEqual(parse_layer(text), layer)
                self.assertEqual(format_layer(layer), text)
            else:
                self.no_text(parse_layer, text)
        for word in ("9" * 40, "9" * 41):
            self.no_text(parse_spec, f"slots 0\noperations\ncrash 0 to {word}",
                f"slots 0 {word}\noperations\ncrash 0 to 0")

    def test_arguments_stay(self):
        thing = [["upper"], {"slots": [0]}]
        self.no_text(parse_layer, thing)
        self.no_text(parse_spec, thing)
        self.assertEqual(thing, [["upper"], {"slots": [0]}])


class LimitsTest(TextTestCase):
    def setUp(self):
        self.started = time.monotonic()

    def tearDown(self):
        self.assertLess(time.monotonic() - self.started, 30)

    def test_large_layers(self):
        layer = compose_layers(TWICE, (compose_layers(TWICE, (TWICE, TWICE)),) * 2)
        whole = compose_layers(layer, (layer,) * 8)
        text = format_layer(whole)
        self.assertGreater(len(text), 8000)
        self.assertEqual(parse_layer(text), whole)

    def test_large_texts(self):
        for text in (
            "slots " + "0 " * 3996, "slots" + " 0" * 3900 + "\noperations", "\n" * 8000, " " * 8000, "0" * 8000,
            "slots" + " 0" * 1900 + "\noperations" + " a 0" * 990, "slots 0\noperations\n" + "crash 0 to 0\n" * 600,
            "upper\n" * 1300, "upper\nslots 0\noperations\ncrash 0 to 0\n" + "lower\n" * 1300,
            "recovery\n" + "up\n" * 2600,
            "upper\nslots 0\noperations\ncrash 0 to 0\nrecovery\n" + "call 0 a\n" + "branch a to 1\n" * 560,
            "to " * 2660,
            "slots 0\noperations ping 0\noutcome 0 ping ok" + " 0" * 3900,
        ):
            self.no_text(parse_spec, text, text[:-1])
            self.no_text(parse_layer, text, text[:-1])

    def test_many_modes(self):
        spec = ((0,) * 600, (), ((),) * 600, tuple(((mode, ()),) for mode in range(600)))
        self.assertIs(is_spec(spec), True)
        self.assertEqual(parse_spec(format_spec(spec)), spec)
