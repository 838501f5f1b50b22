"""The texts of values, and the values of texts."""

from piledoors.errors import (InvalidInterface, InvalidModule, InvalidRule, InvalidStack, InvalidWires, ParseError,
                              TooLarge)
from piledoors.interfaces.canonical import CLASS
from piledoors.interfaces.interfaces import is_interface
from piledoors.modules.modules import EMPTY, MAX_DOORS, MAX_PUSH, MAX_STATES, is_module, is_word, require_labels
from piledoors.summaries.endings import EXIT, NEVER, NO_END
from piledoors.values import are_names, is_ascending, is_name, is_tuple_of, is_whole, is_whole_within

MAX_DIGITS = 400
# The smallest integer with more digits.
TOO_LONG = (10 ** 50) ** 8
NOTHING = "-"
ARROW = "->"
YES = "yes"
NO = "no"


def format_stack(labels, stack):
    """Returns the text of a stack over the labels."""
    require_labels(labels)
    if not is_word(labels, stack):
        raise InvalidStack("not a stack over the labels")
    return text_of_names(stack)


def parse_stack(labels, text):
    """Returns the stack over the labels that has this text."""
    require_labels(labels)
    stack = word_of(parts_of(text))
    if not is_word(labels, stack):
        raise ParseError("not a stack over the labels")
    return stack


def format_rule(rule):
    """Returns the text of a well-formed rule."""
    if not is_rule_form(rule):
        raise InvalidRule("not a well-formed rule")
    return text_of_rule(rule)


def parse_rule(text):
    """Returns the rule that has this text."""
    rule = rule_of(parts_of(text))
    if not is_rule_form(rule):
        raise ParseError("not a rule")
    return rule


def format_wires(wires):
    """Returns the text of well-formed wires."""
    if not is_wires_form(wires):
        raise InvalidWires("not well-formed wires")
    return text_of_names([f"{side}.{door}={goal}.{entry}" for (side, door), (goal, entry) in wires])


def parse_wires(text):
    """Returns the wires that have this text."""
    wires = tuple([wire_of(part) for part in listed(parts_of(text))])
    if not is_wires_form(wires):
        raise ParseError("not wires")
    return wires


def format_result(result):
    """Returns the text of a well-formed result."""
    if not is_result_form(result):
        raise InvalidStack("not a well-formed result")
    if result is None:
        return NEVER
    return f"{result[0]} {text_of_integer(result[2])} {text_of_names(result[1])}"


def parse_result(text):
    """Returns the result that has this text."""
    parts = parts_of(text)
    if parts == [NEVER]:
        return None
    if len(parts) < 3:
        raise ParseError("not the parts of a result")
    result = (parts[0], word_of(parts[2:]), integer_of(parts[1]))
    if not is_result_form(result):
        raise ParseError("not a result")
    return result


def format_module(module):
    """Returns the text of a module."""
    if not is_module(module):
        raise InvalidModule("not a module")
    labels, size, entries, exits, rules = module
    starts = text_of_names([f"{name}={state}" for name, state in entries])
    lines = [f"labels {text_of_names(labels)}", f"states {size}", f"entries {starts}", f"exits {text_of_names(exits)}"]
    return "\n".join(lines + [text_of_rule(rule) for rule in rules])


def parse_module(text):
    """Returns the module that has this text."""
    lines = lines_of(text)
    if len(lines) < 4:
        raise ParseError("not the lines of a module")
    labels = tuple(behind_word(lines[0], "labels"))
    sizes = behind_word(lines[1], "states")
    entries = tuple([entry_of(part) for part in listed(behind_word(lines[2], "entries"))])
    exits = word_of(behind_word(lines[3], "exits"))
    if len(sizes) != 1:
        raise ParseError("not one number of states")
    module = (labels, integer_of(sizes[0]), entries, exits, tuple([rule_of(line.split(" ")) for line in lines[4:]]))
    if not is_module(module):
        raise ParseError("not a module")
    return module


def format_interface(interface):
    """Returns the text of an interface."""
    if not is_interface(interface):
        raise InvalidInterface("not an interface")
    labels, exits, clock, entries, classes = interface
    lines = [f"labels {text_of_names(labels)}", f"exits {text_of_names(exits)}", f"clock {YES if clock else NO}"]
    lines.extend([f"entry {name} {text_of_outcome(outcome)}" for name, outcome in entries])
    for number, row in enumerate(classes):
        lines.append(f"{CLASS} {number}")
        lines.extend([f"{text_of_top(top)} {text_of_outcome(told)}" for top, told in zip((EMPTY,) + labels, row)])
    return "\n".join(lines)


def parse_interface(text):
    """Returns the interface that has this text."""
    lines = lines_of(text)
    if len(lines) < 3:
        raise ParseError("not the lines of an interface")
    labels = tuple(behind_word(lines[0], "labels"))
    exits = word_of(behind_word(lines[1], "exits"))
    clock = behind_word(lines[2], "clock")
    if clock != [YES] and clock != [NO]:
        raise ParseError("the clock is neither yes nor no")
    start = 3
    while start < len(lines) and lines[start].startswith("entry "):
        start = start + 1
    entries = tuple([door_outcome_of(line) for line in lines[3:start]])
    interface = (labels, exits, clock == [YES], entries, classes_of((EMPTY,) + labels, lines[start:]))
    if not is_interface(interface):
        raise ParseError("not an interface")
    return interface


# What follows is for the package. First, what is well formed.


def is_rule_form(value):
    """Returns whether the value is a well-formed rule."""
    if not (is_tuple_of(value, 4) and is_state_form(value[0]) and (value[1] == EMPTY or is_name(value[1]))):
        return False
    if not (is_state_form(value[2]) or is_name(value[2])):
        return False
    return are_names(value[3], False) and len(value[3]) <= MAX_PUSH


def is_state_form(value):
    """Returns whether the value may be a state of some module."""
    return is_whole_within(value, 0, MAX_STATES - 1)


def is_wires_form(value):
    """Returns whether the value is well-formed wires."""
    if not (isinstance(value, tuple) and len(value) <= 2 * MAX_DOORS):
        return False
    for part in value:
        if not (is_tuple_of(part, 2) and is_door_form(part[0]) and is_door_form(part[1])):
            return False
    # With no exit twice, the exits of ascending wires ascend.
    return is_ascending([door for door, entry in value])


def is_door_form(value):
    """Returns whether the value is a pair of a side and a name."""
    return is_tuple_of(value, 2) and is_whole_within(value[0], 0, 1) and is_name(value[1])


def is_result_form(value):
    """Returns whether the value is a well-formed result."""
    if value is None:
        return True
    if not (is_tuple_of(value, 3) and is_name(value[0]) and are_names(value[1], False)):
        return False
    return is_whole(value[2]) and value[2] >= 0


# Texts of values.


def text_of_names(names):
    """Returns the text of names, or of other words without blanks, in their order."""
    return " ".join(names) if names else NOTHING


def text_of_top(top):
    """Returns the text of a top."""
    return top if top != EMPTY else NOTHING


def text_of_integer(number):
    """Returns the text of an integer, or raises an error if it has none."""
    if abs(number) >= TOO_LONG:
        raise TooLarge(MAX_DIGITS)
    return str(number)


def text_of_rule(rule):
    """Returns the text of a rule."""
    state, top, target, push = rule
    return f"{state} {text_of_top(top)} {ARROW} {target} {text_of_names(push)}"


def text_of_outcome(outcome):
    """Returns the text of an outcome."""
    if outcome[0] == NEVER:
        return NEVER
    if outcome[0] == CLASS:
        return f"{CLASS} {outcome[1]} {text_of_integer(outcome[2])}"
    return f"{EXIT} {outcome[1]} {text_of_integer(outcome[3])} {text_of_names(outcome[2])}"


# Values of texts. These functions raise an error if the parts or the integers are wrong. They do not look at the words:
# whoever calls them checks the whole value, in which a part that is no name is found.


def parts_of(text):
    """Returns the parts of a line, which may be any value."""
    if not isinstance(text, str):
        raise ParseError("not a text")
    return text.split(" ")


def lines_of(text):
    """Returns the lines of a text, which may be any value."""
    if not isinstance(text, str):
        raise ParseError("not a text")
    return text.split("\n")


def behind_word(line, word):
    """Returns the parts of a line behind this word, with which it begins."""
    parts = line.split(" ")
    if parts[0] != word or len(parts) < 2:
        raise ParseError("a line does not begin with the right word, or ends with it")
    return parts[1:]


def listed(parts):
    """Returns the parts, or none of them if they say that there is nothing."""
    return [] if parts == [NOTHING] else parts


def word_of(parts):
    """Returns the word that these parts spell."""
    return tuple(listed(parts))


def top_of(part):
    """Returns the top that has this text."""
    if part == EMPTY:
        raise ParseError("a top is missing")
    return EMPTY if part == NOTHING else part


def integer_of(part):
    """Returns the integer that has this text."""
    digits = part[1:] if part.startswith("-") else part
    if not (digits.isascii() and digits.isdigit()) or len(digits) > MAX_DIGITS:
        raise ParseError("not an integer, or one with too many digits")
    if digits.startswith("0") and part != "0":
        raise ParseError("an integer has a leading zero, or a sign that is none")
    return int(part)


def halves_of(part, sign):
    """Returns what stands before and behind the sign, which the part has once."""
    halves = part.split(sign)
    if len(halves) != 2:
        raise ParseError("not two halves")
    return halves


def rule_of(parts):
    """Returns the rule whose text has these parts."""
    if len(parts) < 5 or parts[2] != ARROW:
        raise ParseError("not the parts of a rule")
    target = integer_of(parts[3]) if parts[3].isdigit() else parts[3]
    return (integer_of(parts[0]), top_of(parts[1]), target, word_of(parts[4:]))


def entry_of(part):
    """Returns the entry of a module that has this text."""
    name, state = halves_of(part, "=")
    return (name, integer_of(state))


def wire_of(part):
    """Returns the wire that has this text."""
    door, entry = halves_of(part, "=")
    return (door_of(door), door_of(entry))


def door_of(part):
    """Returns the pair of a side and a name that has this text."""
    side, name = halves_of(part, ".")
    return (integer_of(side), name)


def outcome_of_parts(parts):
    """Returns the outcome whose text has these parts."""
    if parts == [NEVER]:
        return NO_END
    if len(parts) == 3 and parts[0] == CLASS:
        return (CLASS, integer_of(parts[1]), integer_of(parts[2]))
    if len(parts) >= 4 and parts[0] == EXIT:
        return (EXIT, parts[1], word_of(parts[3:]), integer_of(parts[2]))
    raise ParseError("not an outcome")


def door_outcome_of(line):
    """Returns the name and the outcome of an entry of an interface that has this line."""
    parts = behind_word(line, "entry")
    return (parts[0], outcome_of_parts(parts[1:]))


def classes_of(tops, lines):
    """Returns the rows of the classes of an interface that have these lines."""
    rows = []
    height = 1 + len(tops)
    for start in range(0, len(lines), height):
        if lines[start] != f"{CLASS} {len(rows)}":
            raise ParseError("not the lines of the next class")
        row = []
        for top, line in zip(tops, lines[start + 1:start + height]):
            row.append(outcome_of_parts(behind_word(line, text_of_top(top))))
        rows.append(tuple(row))
    return tuple(rows)
