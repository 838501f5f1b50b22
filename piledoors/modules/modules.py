"""Modules: labels, states, entries, exits and rules."""

from piledoors.errors import InvalidLabels, InvalidModule, InvalidRule, InvalidStack, UnknownEntry, UnknownState
from piledoors.values import is_ascending, is_name, is_tuple_of, is_tuple_of_names, is_whole_within

EMPTY = ""
MAX_LABELS = 12
MAX_STATES = 100
MAX_DOORS = 12
MAX_PUSH = 20


def is_labels(value):
    """Returns whether the value is labels."""
    return is_tuple_of_names(value) and 1 <= len(value) <= MAX_LABELS and is_ascending(value)


def is_module(value):
    """Returns whether the value is a module."""
    if not is_tuple_of(value, 5):
        return False
    labels, size, entries, exits, rules = value
    if not (is_labels(labels) and is_whole_within(size, 1, MAX_STATES)):
        return False
    return is_entries(size, entries) and is_exits(exits) and is_rules(value, rules)


def is_stack(labels, value):
    """Returns whether the value is a stack over the labels."""
    require_labels(labels)
    return is_word(labels, value)


def is_rule(module, value):
    """Returns whether the value is a rule of the module."""
    require_module(module)
    return fits_module(module, value)


def make_module(labels, size, *, entries=(), exits=(), rules=()):
    """Returns the module with these parts, each of which may be in any order."""
    if not (is_tuple_of_names(labels) and is_labels(tuple(sorted(labels)))):
        raise InvalidLabels("labels are one to twelve distinct names")
    if not (is_whole_within(size, 1, MAX_STATES) and is_tuple_of_entries(size, entries) and is_tuple_of_names(exits)):
        raise InvalidModule("the size, an entry or an exit is of the wrong kind")
    bare = (tuple(sorted(labels)), size, tuple(sorted(entries)), tuple(sorted(exits)), ())
    if not is_module(bare):
        raise InvalidModule("there are too many entries or exits, or a name occurs twice")
    if not is_tuple_of_rules(bare, rules):
        raise InvalidRule("a rule does not fit the module")
    whole = with_rules(bare, rules)
    if not is_ascending(heads_of(whole[4])):
        raise InvalidRule("two rules have the same head")
    return whole


def rule_heads(module):
    """Returns the heads of all rules, ascending."""
    require_module(module)
    return heads_of(module[4])


def rule_at(module, state, top):
    """Returns the target and the push of the rule with this head, or None."""
    require_module(module)
    require_state(module, state)
    require_top(module, top)
    return rule_table(module).get((state, top))


def start_state(module, entry):
    """Returns the start state of the entry."""
    require_module(module)
    return start_of(module, entry)


def with_rule(module, rule):
    """Returns the module with this rule, in the place of one with the same head."""
    require_module(module)
    if not fits_module(module, rule):
        raise InvalidRule("the rule does not fit the module")
    head = (rule[0], rule[1])
    return with_rules(module, rules_besides(module, head) + (rule,))


def without_rule(module, state, top):
    """Returns the module without the rule with this head."""
    require_module(module)
    require_state(module, state)
    require_top(module, top)
    rest = rules_besides(module, (state, top))
    if len(rest) == len(module[4]):
        raise InvalidRule("the module has no rule with this head")
    return with_rules(module, rest)


# What follows is for the package. These functions take a module, labels or a size for granted,
# so that each function of the interface checks its module once.


def is_top(labels, value):
    """Returns whether the value is a top of a stack over the labels."""
    return value == EMPTY or value in labels


def is_word(labels, value):
    """Returns whether the value is a word over the labels."""
    return isinstance(value, tuple) and all([label in labels for label in value])


def is_tuple_of_entries(size, value):
    """Returns whether the value is a tuple of entries, in any order and with any names."""
    return isinstance(value, tuple) and all([is_entry(size, part) for part in value])


def is_entry(size, value):
    """Returns whether the value may stand among the entries of a module of this size."""
    return is_tuple_of(value, 2) and is_name(value[0]) and is_whole_within(value[1], 0, size - 1)


def is_entries(size, value):
    """Returns whether the value is the entries of a module of this size."""
    if not (is_tuple_of_entries(size, value) and len(value) <= MAX_DOORS):
        return False
    return is_ascending([name for name, state in value])


def is_exits(value):
    """Returns whether the value is the exits of a module."""
    return is_tuple_of_names(value) and len(value) <= MAX_DOORS and is_ascending(value)


def fits_module(module, value):
    """Returns whether the value may stand among the rules of the module, whose own rules do not matter."""
    if not is_tuple_of(value, 4):
        return False
    labels, size, exits = module[0], module[1], module[3]
    state, top, target, push = value
    if not (is_whole_within(state, 0, size - 1) and is_top(labels, top)):
        return False
    if not (is_whole_within(target, 0, size - 1) or target in exits):
        return False
    return is_word(labels, push) and len(push) <= MAX_PUSH


def is_tuple_of_rules(module, value):
    """Returns whether the value is a tuple of rules of the module, in any order."""
    return isinstance(value, tuple) and all([fits_module(module, part) for part in value])


def is_rules(module, value):
    """Returns whether the value may be all rules of the module."""
    return is_tuple_of_rules(module, value) and is_ascending(heads_of(value))


def heads_of(rules):
    """Returns the heads of the rules, in their order."""
    return tuple([(rule[0], rule[1]) for rule in rules])


def start_of(module, entry):
    """Returns the start state of the entry, which may be any value."""
    for name, state in module[2]:
        if name == entry:
            return state
    raise UnknownEntry(entry)


def rule_table(module):
    """Returns a dict from each head that has a rule to the target and the push."""
    return {(state, top): (target, push) for state, top, target, push in module[4]}


def rules_besides(module, head):
    """Returns the rules of the module that have another head."""
    return tuple([rule for rule in module[4] if (rule[0], rule[1]) != head])


def with_rules(module, rules):
    """Returns the module with these rules instead of its own."""
    return module[:4] + (tuple(sorted(rules, key=lambda rule: (rule[0], rule[1]))),)


def require_labels(labels):
    """Raises an error if this is not labels."""
    if not is_labels(labels):
        raise InvalidLabels("not labels")


def require_module(module):
    """Raises an error if this is not a module."""
    if not is_module(module):
        raise InvalidModule("not a module")


def require_state(module, state):
    """Raises an error if this is not a state of the module."""
    if not is_whole_within(state, 0, module[1] - 1):
        raise UnknownState(state)


def require_top(module, top):
    """Raises an error if this is not a top of a stack over the labels of the module."""
    if not is_top(module[0], top):
        raise InvalidStack("the top is neither empty nor a label of the module")


def require_stack(module, stack):
    """Raises an error if this is not a stack over the labels of the module."""
    if not is_word(module[0], stack):
        raise InvalidStack("not a stack over the labels of the module")
