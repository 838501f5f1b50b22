"""Modules: labels, states, entries, exits and rules."""

from piledoors.errors import InvalidLabels, InvalidModule, InvalidRule, InvalidStack, UnknownEntry, UnknownState
from piledoors.values import are_names, is_ascending, is_tuple_of, is_whole_within

EMPTY = ""
MAX_LABELS = 12
MAX_STATES = 100
MAX_DOORS = 12
MAX_PUSH = 20


def is_labels(value):
    """Returns whether the value is labels."""
    return are_names(value, True) and 1 <= len(value) <= MAX_LABELS


def is_module(value):
    """Returns whether the value is a module."""
    if not is_tuple_of(value, 5):
        return False
    labels, size, entries, exits, rules = value
    if not (is_labels(labels) and is_whole_within(size, 1, MAX_STATES) and are_entries(size, entries, True)):
        return False
    return len(entries) <= MAX_DOORS and is_exits(exits) and are_rules(value, rules, True)


def is_stack(labels, value):
    """Returns whether the value is a stack over the labels."""
    require_labels(labels)
    return is_word(labels, value)


def is_rule(module, value):
    """Returns whether the value is a rule of the module."""
    require_module(module)
    return fits_module(module, value)


def make_module(labels, size, *, entries=(), exits=(), rules=()):
    """Returns the module with these parts, each of which may be in any order."""
    if not (are_names(labels, False) and is_labels(tuple(sorted(labels)))):
        raise InvalidLabels("labels are one to twelve distinct names")
    if not (is_whole_within(size, 1, MAX_STATES) and are_entries(size, entries, False) and are_names(exits, False)):
        raise InvalidModule("the size, an entry or an exit is of the wrong kind")
    bare = (tuple(sorted(labels)), size, tuple(sorted(entries)), tuple(sorted(exits)), ())
    if not is_module(bare):
        raise InvalidModule("there are too many entries or exits, or a name occurs twice")
    if not are_rules(bare, rules, False):
        raise InvalidRule("a rule does not fit the module")
    ordered = tuple(sorted(rules, key=lambda rule: rule[:2]))
    if not is_ascending(heads_of(ordered)):
        raise InvalidRule("two rules have the same head")
    return bare[:4] + (ordered,)


def rule_heads(module):
    """Returns the heads of all rules, ascending."""
    require_module(module)
    return heads_of(module[4])


def rule_at(module, state, top):
    """Returns the target and the push of the rule with this head, or None."""
    require_module(module)
    require_state(module, state)
    require_top(module, top)
    return rule_for(module[4], state, top)


def start_state(module, entry):
    """Returns the start state of the entry."""
    require_module(module)
    return start_of(module, entry)


def with_rule(module, rule):
    """Returns the module with this rule, in the place of one with the same head."""
    require_module(module)
    if not fits_module(module, rule):
        raise InvalidRule("the rule does not fit the module")
    before, behind = rules_around(module[4], rule[:2])
    return module[:4] + (before + (rule,) + behind,)


def without_rule(module, state, top):
    """Returns the module without the rule with this head."""
    require_module(module)
    require_state(module, state)
    require_top(module, top)
    before, behind = rules_around(module[4], (state, top))
    if len(before) + len(behind) == len(module[4]):
        raise InvalidRule("the module has no rule with this head")
    return module[:4] + (before + behind,)


# What follows is for the package. These functions take a module, labels or a size for granted,
# so that each function of the interface checks its module once.


def is_top(labels, value):
    """Returns whether the value is a top of a stack over the labels."""
    return value == EMPTY or value in labels


def is_word(labels, value):
    """Returns whether the value is a word over the labels, which are a tuple or the keys of a dict."""
    if not isinstance(value, tuple):
        return False
    for label in value:
        if not isinstance(label, str) or label not in labels:
            return False
    return True


def are_entries(size, value, ascending):
    """Returns whether the value is a tuple of entries of a module of this size: ascending, or in any order."""
    if not isinstance(value, tuple):
        return False
    for part in value:
        if not isinstance(part, tuple) or len(part) != 2 or not is_whole_within(part[1], 0, size - 1):
            return False
    return are_names(tuple([name for name, state in value]), ascending)


def is_exits(value):
    """Returns whether the value is the exits of a module."""
    return are_names(value, True) and len(value) <= MAX_DOORS


def fits_module(module, value):
    """Returns whether the value may stand among the rules of the module, whose own rules do not matter."""
    return are_rules(module, (value,), False)


def are_rules(module, value, ascending):
    """Returns whether the value is a tuple of rules of the module: with ascending heads, or in any order."""
    if not isinstance(value, tuple):
        return False
    labels, size, _, exits = module[:4]
    known = {label: True for label in labels}
    # Rules often push equal words, and two words are compared faster than each label is looked at.
    words = [()] * (MAX_PUSH + 1)
    last = -1
    last_top = EMPTY
    for rule in value:
        if not isinstance(rule, tuple) or len(rule) != 4:
            return False
        state, top, target, push = rule
        if type(state) != int or not 0 <= state < size:
            return False
        if not isinstance(top, str) or (top not in known and top != EMPTY):
            return False
        if ascending and state <= last and (state < last or top <= last_top):
            return False
        last = state
        last_top = top
        if type(target) == int:
            if not 0 <= target < size:
                return False
        elif target not in exits:
            return False
        if not isinstance(push, tuple) or len(push) > MAX_PUSH:
            return False
        if push != words[len(push)]:
            if not is_word(known, push):
                return False
            words[len(push)] = push
    return True


def heads_of(rules):
    """Returns the heads of the rules, in their order."""
    return tuple([rule[:2] for rule in rules])


def start_of(module, entry):
    """Returns the start state of the entry, which may be any value."""
    for name, state in module[2]:
        if name == entry:
            return state
    raise UnknownEntry(entry)


def rule_table(module):
    """Returns a dict from each head that has a rule to the target and the push."""
    return {(state, top): (target, push) for state, top, target, push in module[4]}


def rule_for(rules, state, top):
    """Returns the target and the push of the rule with this head, or None."""
    at = place_of(rules, (state, top))
    if at < len(rules) and rules[at][:2] == (state, top):
        return rules[at][2:]
    return None


def place_of(rules, head):
    """Returns how many of the ascending rules have a smaller head."""
    low = 0
    high = len(rules)
    while low < high:
        middle = (low + high) // 2
        if rules[middle][:2] < head:
            low = middle + 1
        else:
            high = middle
    return low


def rules_around(rules, head):
    """Returns the rules with smaller heads, and those with greater ones."""
    at = place_of(rules, head)
    if at < len(rules) and rules[at][:2] == head:
        return rules[:at], rules[at + 1:]
    return rules[:at], rules[at:]


def require_labels(labels):
    """Raises an error if this is not labels."""
    if not is_labels(labels):
        raise InvalidLabels("not labels")


def require_module(module):
    """Raises an error if this is not a module."""
    if not is_module(module):
        raise InvalidModule("not a module")


def require_state(module, state):
    """Raises an error if this is not a state of the module."""
    if not is_whole_within(state, 0, module[1] - 1):
        raise UnknownState(state)


def require_top(module, top):
    """Raises an error if this is not a top of a stack over the labels of the module."""
    if not is_top(module[0], top):
        raise InvalidStack("the top is neither empty nor a label of the module")


def require_stack(module, stack):
    """Raises an error if this is not a stack over the labels of the module."""
    if not is_word(module[0], stack):
        raise InvalidStack("not a stack over the labels of the module")
