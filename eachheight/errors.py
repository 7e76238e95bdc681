"""The errors of the package."""


class EachHeightError(ValueError):
    """The base class of the errors of the package, except UnknownName and UnknownNode."""


class InvalidText(EachHeightError):
    """A value is not the text of a spec or of a layer."""


class InvalidCommand(EachHeightError):
    """A value is not a command of a shell."""


class InvalidCertificate(EachHeightError):
    """A value is not a certificate of the layer."""


class SystemDown(EachHeightError):
    """The system is down."""


class SystemUp(EachHeightError):
    """The system is up."""


class BadStep(EachHeightError):
    """The step is bad."""

    def __init__(self, step):
        self.step = step


class NoSuchStep(EachHeightError):
    """A value is not a step from the state."""

    def __init__(self, step):
        self.step = step


class TooManyStates(EachHeightError):
    """More states can be reached than are allowed."""

    def __init__(self, max_states):
        self.max_states = max_states


class DuplicateOperation(EachHeightError):
    """Two specs that are multiplied have an operation of the same name."""

    def __init__(self, name):
        self.name = name


class Mismatch(EachHeightError):
    """The layer at this position does not match."""

    def __init__(self, position):
        self.position = position


class UnknownOperation(EachHeightError):
    """A value is not an operation of the spec."""

    def __init__(self, op):
        self.op = op


class InvalidArguments(EachHeightError):
    """A value is not a tuple of arguments of the operation."""

    def __init__(self, arguments):
        self.arguments = arguments


class UnhandledReply(EachHeightError):
    """The layer of this node got a reply that its program does not handle."""

    def __init__(self, node):
        self.node = node


class Uncovered(EachHeightError):
    """No state of the certificate fits these configs."""

    def __init__(self, configs):
        self.configs = configs


class NameTaken(EachHeightError):
    """The name is in use already."""

    def __init__(self, name):
        self.name = name


class UnknownName(KeyError):
    """Nothing has this name."""

    def __init__(self, name):
        self.name = name


class UnknownNode(IndexError):
    """A value is not a node of the wanted kind."""

    def __init__(self, node):
        self.node = node
