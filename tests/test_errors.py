import unittest

from eachheight import errors
from eachheight.errors import EachHeightError, UnknownName, UnknownNode
from eachheight.limits import LOST, MAX_STATES

PARAMETERS = {
    "InvalidText": None,
    "InvalidCommand": None,
    "InvalidCertificate": None,
    "SystemDown": None,
    "SystemUp": None,
    "BadStep": "step",
    "NoSuchStep": "step",
    "TooManyStates": "max_states",
    "DuplicateOperation": "name",
    "Mismatch": "position",
    "UnknownOperation": "op",
    "InvalidArguments": "arguments",
    "UnhandledReply": "node",
    "Uncovered": "configs",
    "NameTaken": "name",
    "UnknownName": "name",
    "UnknownNode": "node",
}
VALUES = (None, True, 0, -1, 10 ** 39, "", "get", "a\nb", (), (0, 1), [1, [2]], {"a": [()]})


class ErrorsTest(unittest.TestCase):
    def test_there_are_no_other_classes(self):
        found = {name for name, thing in vars(errors).items() if isinstance(thing, type)}
        self.assertEqual(found, set(PARAMETERS) | {"EachHeightError"})
        for name in found:
            self.assertEqual(getattr(errors, name).__module__, "eachheight.errors")

    def test_bases(self):
        self.assertEqual(EachHeightError.__bases__, (ValueError,))
        self.assertEqual(UnknownName.__bases__, (KeyError,))
        self.assertEqual(UnknownNode.__bases__, (IndexError,))
        for name in PARAMETERS:
            if name not in ("UnknownName", "UnknownNode"):
                self.assertEqual(getattr(errors, name).__bases__, (EachHeightError,), name)

    def test_no_class_is_a_subclass_of_another_one(self):
        for name in PARAMETERS:
            for other in PARAMETERS:
                related = issubclass(getattr(errors, name), getattr(errors, other))
                self.assertEqual(related, name == other)
        self.assertFalse(issubclass(UnknownName, EachHeightError))
        self.assertFalse(issubclass(UnknownNode, EachHeightError))

    def test_each_can_be_made_with_any_value(self):
        for name, parameter in PARAMETERS.items():
            made = getattr(errors, name)
            if parameter is None:
                self.assertEqual(vars(made()), {})
                self.assertIsInstance(str(made()), str)
                continue
            for value in VALUES:
                for error in (made(value), made(**{parameter: value})):
                    self.assertIs(type(getattr(error, parameter)), type(value))
                    self.assertEqual(vars(error), {parameter: value})
                    self.assertIsInstance(str(error), str)

    def test_the_attribute_is_set_on_each_object(self):
        for name, parameter in PARAMETERS.items():
            if parameter is not None:
                made = getattr(errors, name)
                first, second = made(1), made(2)
                self.assertFalse(hasattr(made, parameter))
                self.assertEqual((getattr(first, parameter), getattr(second, parameter)), (1, 2))

    def test_the_parameter_is_needed(self):
        for name, parameter in PARAMETERS.items():
            if parameter is not None:
                with self.assertRaises(TypeError):
                    getattr(errors, name)()
                with self.assertRaises(TypeError):
                    getattr(errors, name)(1, 2)

    def test_the_base_class_takes_one_value(self):
        for value in VALUES:
            self.assertEqual(EachHeightError(value).args, (value,))

    def test_each_is_caught_as_what_it_is(self):
        for name, parameter in PARAMETERS.items():
            base = {"UnknownName": KeyError, "UnknownNode": IndexError}.get(name, EachHeightError)
            made = getattr(errors, name)
            with self.assertRaises(base):
                raise made() if parameter is None else made("x")


class LimitsTest(unittest.TestCase):
    def test_numbers(self):
        self.assertEqual((MAX_STATES, type(MAX_STATES)), (300, int))
        self.assertEqual((LOST, type(LOST)), (-1, int))
