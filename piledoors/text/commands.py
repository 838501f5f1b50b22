"""The commands of a shell: how they are written."""

from piledoors.errors import InvalidCommand, ParseError
from piledoors.modules.modules import is_top
from piledoors.text.formats import integer_of, parse_module, parse_rule, parse_stack, parse_wires, top_of
from piledoors.values import is_name

# The words of each command: fixed ones, and in capital letters what is written in their places.
PATTERNS = (
    ("add", "NAME", "MODULE"),
    ("remove", "NAME"),
    ("set", "NAME", "RULE"),
    ("clear", "NAME", "INTEGER", "TOP"),
    ("link", "NAME", "NAME", "NAME", "WIRES"),
    ("undo", "INTEGER"),
    ("redo", "INTEGER"),
    ("least", "NAME", "NAME"),
    ("names",),
    ("module", "NAME"),
    ("result", "NAME", "NAME", "STACK"),
    ("summary", "NAME", "INTEGER", "TOP"),
    ("interface", "NAME"),
    ("interface", "NAME", "clock"),
    ("equivalent", "NAME", "NAME"),
    ("equivalent", "NAME", "NAME", "clock"),
    ("replaces", "NAME", "NAME"),
)
# The least numbers of parts of what can have several. It stands at the end.
LEAST_PARTS = {"RULE": 5, "WIRES": 1, "STACK": 1}


def read_command(labels, command):
    """Returns the first word of a command, which may be any value, and a list of the values of its other words."""
    if not isinstance(command, str):
        raise InvalidCommand("not a string")
    parts = parts_of_command(command)
    for pattern in PATTERNS:
        if is_like(pattern, parts):
            # What can have several parts is read as a whole again.
            texts = parts[:len(pattern) - 1] + [" ".join(parts[len(pattern) - 1:])]
            values = [value_of_word(labels, word, text) for word, text in zip(pattern, texts)]
            return values[0], values[1:]
    raise InvalidCommand("no such command, or not with so many parts")


def parts_of_command(command):
    """Returns the parts of a command. What stands behind the first newline of an `add` is one part."""
    head, newline, rest = command.partition("\n")
    parts = head.split(" ")
    if newline and parts[0] == "add":
        return parts + [rest]
    return command.split(" ")


def is_like(pattern, parts):
    """Returns whether the parts have the fixed words of a pattern, and are as many as it allows."""
    more = LEAST_PARTS.get(pattern[-1], 0)
    if more:
        if len(parts) < len(pattern) - 1 + more:
            return False
    elif len(parts) != len(pattern):
        return False
    for word, part in zip(pattern, parts):
        if word.islower() and word != part:
            return False
    return True


def value_of_word(labels, word, text):
    """Returns the value of a text that stands for this word of a pattern."""
    if word == "NAME":
        if not is_name(text):
            raise ParseError("not a name")
        return text
    if word == "INTEGER":
        return integer_of(text)
    if word == "TOP":
        top = top_of(text)
        if not is_top(labels, top):
            raise ParseError("not a top over the labels of the shell")
        return top
    if word == "STACK":
        return parse_stack(labels, text)
    if word == "RULE":
        return parse_rule(text)
    if word == "WIRES":
        return parse_wires(text)
    return parse_module(text) if word == "MODULE" else text
