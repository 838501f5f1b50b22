"""Contexts: modules into which another module is put, to see what comes of it."""

from piledoors.compare.equivalence import find_separating, require_comparable
from piledoors.errors import InvalidContext, NameConflict, TooLarge
from piledoors.linking.link import linked_rules
from piledoors.modules.modules import EMPTY, MAX_PUSH, MAX_STATES, is_module, require_module, start_of
from piledoors.results.results import result
from piledoors.summaries.endings import EXIT, Endings, head_table

GO = "go"
YES = "yes"
MOST_DOORS = 11
MOST_LABELS = 90


def is_context(module, value):
    """Returns whether the value is a context of the module."""
    require_module(module)
    require_names_free(module)
    return is_module(value) and fits_around(module, value)


def context_outcome(module, context):
    """Returns the number of ticks until the context with the module says yes, or None if it never does."""
    require_module(module)
    require_names_free(module)
    if not (is_module(context) and fits_around(module, context)):
        raise InvalidContext("not a context of the module")
    wires = [((0, name), (1, name)) for name in module[3]]
    wires.extend([((1, name), (0, name)) for name in context[3] if name != YES])
    endings = Endings(head_table(linked_rules([module, context], wires)))
    ending = endings.ending((module[1] + start_of(context, GO), EMPTY))
    return ending[3] if ending[0] == EXIT else None


def separating_context(first, second, *, clock=False):
    """Returns a context that tells the modules apart, or None if they are equivalent."""
    require_comparable(first, second)
    require_names_free(first)
    found = find_separating(first, second, clock)
    if found is None:
        return None
    if len(first[2]) > MOST_DOORS or len(first[3]) > MOST_DOORS:
        raise TooLarge(MOST_DOORS)
    entry, stack = found
    told = result(first, entry, stack)
    if told is None:
        told = result(second, entry, stack)
    if len(stack) + len(told[1]) > MOST_LABELS:
        raise TooLarge(MAX_STATES)
    return asking_context(first, found, told)


# What follows is for the package.


def require_names_free(module):
    """Raises an error if the module has an entry or an exit with a name that contexts need."""
    if YES in [name for name, state in module[2]]:
        raise NameConflict(YES)
    if GO in module[3]:
        raise NameConflict(GO)


def fits_around(module, context):
    """Returns whether a module has the labels, entries and exits of a context of another one."""
    entries = [name for name, state in context[2]]
    exits = [name for name, state in module[2]]
    same = context[0] == module[0] and entries == sorted((GO,) + module[3])
    return same and list(context[3]) == sorted([YES] + exits)


def asking_context(module, found, told):
    """Returns a context that says yes if the module, at the entry and stack that are found, has the told result.

    It puts the stack on the empty one, and says yes if control comes back by the exit with the stack that is left.
    """
    entry, stack = found
    door, left, _ = told
    rules = putting_rules(stack, entry)
    start = len(rules)
    for label in left:
        rules.append((len(rules), label, len(rules) + 1, ()))
    rules.append((len(rules), EMPTY, YES, ()))
    stuck = len(rules)
    entries = [(GO, 0)] + [(name, start if name == door else stuck) for name in module[3]]
    exits = [YES] + [name for name, state in module[2]]
    return (module[0], stuck + 1, tuple(sorted(entries)), tuple(sorted(exits)), tuple(rules))


def putting_rules(stack, entry):
    """Returns rules of the states 0, 1, .., one each, that put the stack on the empty one and leave by this exit."""
    rules = []
    top = EMPTY
    at = max(0, len(stack) - MAX_PUSH)
    push = stack[at:]
    while at > 0:
        rules.append((len(rules), top, len(rules) + 1, push))
        # The next rule removes the label on top, so it puts this one back, too.
        top = stack[at]
        push = stack[max(0, at + 1 - MAX_PUSH):at + 1]
        at = max(0, at + 1 - MAX_PUSH)
    rules.append((len(rules), top, entry, push))
    return rules
