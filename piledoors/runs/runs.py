"""Runs of a module, step by step."""

from piledoors.errors import InvalidNumber
from piledoors.modules.modules import (EMPTY, require_module, require_stack, require_state, rule_for, rule_table,
                                       start_of)
from piledoors.values import is_tuple_of, is_whole_within

MAX_TRACE = 200
STUCK = ("stuck",)
OPEN = ("open",)


def step(module, state, stack):
    """Returns the effect of one step: the next configuration, an exit and the stack that is left, or stuck."""
    require_module(module)
    require_state(module, state)
    require_stack(module, stack)
    return effect_of(rule_for(module[4], state, stack[0] if stack else EMPTY), stack)


def trace(module, entry, stack, *, limit=100):
    """Returns the trace with this many steps, or with all steps if the run ends with fewer."""
    require_module(module)
    state = start_of(module, entry)
    require_stack(module, stack)
    if not is_whole_within(limit, 0, MAX_TRACE):
        raise InvalidNumber(limit)
    rules = rule_table(module)
    configurations = [(state, stack)]
    effect = effect_of(rules.get((state, stack[0] if stack else EMPTY)), stack)
    while effect[0] == "state" and len(configurations) <= limit:
        _, state, stack = effect
        configurations.append((state, stack))
        effect = effect_of(rules.get((state, stack[0] if stack else EMPTY)), stack)
    if effect == STUCK or (effect[0] == "exit" and len(configurations) <= limit):
        return tuple(configurations), effect
    return tuple(configurations), OPEN


def is_trace(module, entry, stack, value):
    """Returns whether the value is a trace of the run, with any number of steps."""
    require_module(module)
    effect = ("state", start_of(module, entry), stack)
    require_stack(module, stack)
    if not (is_tuple_of(value, 2) and isinstance(value[0], tuple) and value[0]):
        return False
    rules = rule_table(module)
    for configuration in value[0]:
        if effect[0] != "state" or not is_same_configuration(effect[1:], configuration):
            return False
        _, state, stack = effect
        effect = effect_of(rules.get((state, stack[0] if stack else EMPTY)), stack)
    return is_end(effect, value[1])


def effect_of(rule, stack):
    """Returns the effect of a step by a target and a push, or by None if there is no rule."""
    if rule is None:
        return STUCK
    target, push = rule
    kind = "exit" if isinstance(target, str) else "state"
    return kind, target, push + stack[1:]


def is_same_configuration(configuration, value):
    """Returns whether the value is this configuration. It is compared with care: True equals 1."""
    return value == configuration and not isinstance(value[0], bool)


def is_end(effect, value):
    """Returns whether a trace may end with this value behind a configuration with this effect."""
    if effect == STUCK:
        return value == STUCK
    return value == OPEN or (effect[0] == "exit" and value == effect)
