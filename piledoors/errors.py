"""The errors of the package."""

# Python refuses to write out integers of some thousand digits.
MOST_BITS = 10000


def shown(value):
    """Returns a text for the value, which shows it if it can be shown."""
    return repr(value) if can_be_shown(value) else "(something that is not shown)"


def can_be_shown(value):
    """Returns whether the value consists of plain values, none of which is a very long integer."""
    if isinstance(value, int):
        return value.bit_length() <= MOST_BITS
    if isinstance(value, dict):
        return can_be_shown(list(value.items()))
    if isinstance(value, (tuple, list)):
        return all([can_be_shown(part) for part in value])
    return value is None or isinstance(value, str)


class PileError(ValueError):
    """The base of the errors that take a message."""


class InvalidLabels(PileError):
    """The value is not labels."""


class InvalidStack(PileError):
    """The value is not a stack, a top or a result over these labels."""


class InvalidModule(PileError):
    """The value is not a module."""


class InvalidRule(PileError):
    """The value is not a rule of the module, or the module has no such rule."""


class InvalidInterface(PileError):
    """The value is not an interface."""


class InvalidWires(PileError):
    """The value is not wires."""


class InvalidBlocks(PileError):
    """The value is not blocks over these labels."""


class InvalidContext(PileError):
    """The value is not a context."""


class InvalidProgram(PileError):
    """The value is not a program or a system."""


class InvalidEdit(PileError):
    """The value is not an edit that can be performed."""


class InvalidClaim(PileError):
    """The value is not a claim."""


class ParseError(PileError):
    """The text is not the text of a value."""


class InvalidCommand(PileError):
    """The value is not a command."""


class UnknownEntry(KeyError):
    """The module has no entry with this name."""

    def __init__(self, name):
        KeyError.__init__(self, f"unknown entry {shown(name)}")
        self.name = name


class UnknownState(IndexError):
    """The value is not a state of the module."""

    def __init__(self, state):
        IndexError.__init__(self, f"unknown state {shown(state)}")
        self.state = state


class InvalidNumber(IndexError):
    """The value is not an integer in the required range."""

    def __init__(self, value):
        IndexError.__init__(self, f"invalid number {shown(value)}")
        self.value = value


class UnknownModule(LookupError):
    """There is no module with this name."""

    def __init__(self, name):
        LookupError.__init__(self, f"unknown module {shown(name)}")
        self.name = name


class NameConflict(RuntimeError):
    """The name is in use."""

    def __init__(self, name):
        RuntimeError.__init__(self, f"the name {shown(name)} is in use")
        self.name = name


class TooLarge(OverflowError):
    """Something exceeds the limit."""

    def __init__(self, limit):
        OverflowError.__init__(self, f"more than {shown(limit)}")
        self.limit = limit


class NotEquivalent(ArithmeticError):
    """Two modules differ on this stack."""

    def __init__(self, stack):
        ArithmeticError.__init__(self, f"not equivalent on {shown(stack)}")
        self.stack = stack


class NothingToUndo(IndexError):
    """There are fewer edits than should be undone or redone."""

    def __init__(self, many):
        IndexError.__init__(self, f"there are no {shown(many)} edits")
        self.many = many
