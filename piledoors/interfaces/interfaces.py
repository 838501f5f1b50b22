"""Interfaces: what other modules can find out about a module, and nothing else."""

from piledoors.errors import InvalidInterface, InvalidStack, UnknownEntry
from piledoors.interfaces.canonical import CLASS, canonical_interface
from piledoors.modules.modules import MAX_DOORS, is_exits, is_labels, is_word, require_module
from piledoors.summaries.endings import EXIT, NEVER, NO_END, POP
from piledoors.summaries.rows import place_in_row, rows_of
from piledoors.values import are_names, is_tuple_of, is_whole, is_whole_within


def interface(module, *, clock=False):
    """Returns the interface of the module."""
    require_module(module)
    return interface_of(module, clock)


def is_interface(value):
    """Returns whether the value is an interface."""
    if not has_form(value):
        return False
    labels, exits, clock, entries, classes = value
    starts = [(name, as_summary(outcome)) for name, outcome in entries]
    return canonical_interface(labels, exits, clock, starts, rows_of_classes(classes)) == value


def interface_result(interface, entry, stack):
    """Returns what the interface says of the entry and the stack: exit, stack and ticks, or None."""
    require_interface(interface)
    labels, _, _, entries, classes = interface
    outcome = outcome_of(entries, entry)
    if not is_word(labels, stack):
        raise InvalidStack("not a stack over the labels of the interface")
    gone = 0
    ticks = 0
    while outcome[0] == CLASS:
        ticks = ticks + outcome[2]
        row = classes[outcome[1]]
        outcome = row[place_in_row(labels, stack[gone]) if gone < len(stack) else 0]
        gone = gone + 1
    if outcome[0] == NEVER:
        return None
    return outcome[1], outcome[2] + stack[gone:], ticks + outcome[3]


# What follows is for the package.


def interface_of(module, clock):
    """Returns the interface of a module."""
    entries = [(name, (POP, state, 0)) for name, state in module[2]]
    return canonical_interface(module[0], module[3], clock, entries, rows_of(module, clock))


def has_form(value):
    """Returns whether the value has the form of an interface. It may say something twice, or what never matters."""
    if not (is_tuple_of(value, 5) and is_labels(value[0]) and is_exits(value[1]) and isinstance(value[2], bool)):
        return False
    entries, classes = value[3:]
    if not (isinstance(entries, tuple) and isinstance(classes, tuple) and len(entries) <= MAX_DOORS):
        return False
    if not all([is_tuple_of(part, 2) and is_outcome(value, part[1]) for part in entries]):
        return False
    return are_names(tuple([part[0] for part in entries]), True) and all([is_row(value, row) for row in classes])


def is_row(interface, value):
    """Returns whether the value may be a row of something in the form of this interface."""
    if not is_tuple_of(value, 1 + len(interface[0])) or not is_outcome(interface, value[0]):
        return False
    return value[0][0] != CLASS and all([is_outcome(interface, outcome) for outcome in value])


def is_outcome(interface, value):
    """Returns whether the value may be an outcome in something in the form of this interface."""
    labels, exits, clock, _, classes = interface
    if is_tuple_of(value, 4) and value[0] == EXIT:
        return value[1] in exits and is_word(labels, value[2]) and is_whole(value[3]) and (clock or value[3] == 0)
    if is_tuple_of(value, 3) and value[0] == CLASS:
        in_range = is_whole_within(value[1], 0, len(classes) - 1)
        return in_range and is_whole(value[2]) and (clock or value[2] == 0)
    return value == NO_END


def outcome_of(entries, entry):
    """Returns the outcome of the entry, which may be any value."""
    for name, outcome in entries:
        if name == entry:
            return outcome
    raise UnknownEntry(entry)


def as_summary(outcome):
    """Returns the summary that belongs to an outcome, where the classes are states."""
    return (POP,) + outcome[1:] if outcome[0] == CLASS else outcome


def rows_of_classes(classes):
    """Returns rows of summaries for the rows of an interface."""
    return [[as_summary(outcome) for outcome in row] for row in classes]


def require_interface(interface):
    """Raises an error if this is not an interface."""
    if not is_interface(interface):
        raise InvalidInterface("not an interface")
