"""Linked modules: two modules side by side, of which exits lead to entries."""

from piledoors.errors import InvalidModule, TooLarge
from piledoors.linking.wiring import (are_wires, doors_of, entries_left, exits_left, new_names, renamed,
                                      require_distinct, require_few, require_names, require_own_wires, require_wires,
                                      with_side)
from piledoors.modules.modules import MAX_STATES, is_module, require_module, start_of


def is_wires(first, second, value):
    """Returns whether the value is wires between the modules."""
    require_parts(first, second)
    return are_wires(doors_of_modules([first, second]), value)


def link(first, second, wires, *, kept=()):
    """Returns the linked module."""
    require_parts(first, second)
    require_linkable(first, second, wires, kept)
    return linked([first, second], wires, kept)


def link_self(module, wires, *, kept=()):
    """Returns the module linked with itself."""
    require_module(module)
    require_own_wires(doors_of(module[2], module[3]), wires, kept)
    wires, kept = with_side(wires, kept)
    return linked([module], wires, kept)


def rename(module, *, entries=(), exits=()):
    """Returns the module with other names of entries and exits."""
    require_module(module)
    require_names(doors_of(module[2], module[3]), entries, exits)
    names = renamed([name for name, state in module[2]], entries)
    doors = sorted([(name, state) for name, (_, state) in zip(names, module[2])])
    table = new_names(exits)
    rules = [(state, top, table.get(target, target), push) for state, top, target, push in module[4]]
    left = {name: True for name in renamed(module[3], exits)}
    return (module[0], module[1], tuple(doors), tuple(sorted(left)), tuple(rules))


# What follows is for the package.


def require_parts(first, second):
    """Raises an error if these are not modules with the same labels."""
    require_module(first)
    if not (is_module(second) and second[0] == first[0]):
        raise InvalidModule("not a module, or with other labels than the first one")


def require_linkable(first, second, wires, kept):
    """Raises an error if these modules with the same labels cannot be linked by the wires, with these kept entries."""
    doors = doors_of_modules([first, second])
    require_wires(doors, wires, kept)
    entries = entries_left(doors, wires, kept)
    require_distinct([name for name, side in entries])
    if first[1] + second[1] > MAX_STATES:
        raise TooLarge(MAX_STATES)
    require_few(entries, exits_left(doors, wires))


def doors_of_modules(modules):
    """Returns the doors of the modules, in their order."""
    return [doors_of(module[2], module[3]) for module in modules]


def linked(modules, wires, kept):
    """Returns the linked module, which may have too many states."""
    doors = doors_of_modules(modules)
    firsts = first_states(modules)
    entries = [(name, firsts[side] + start_of(modules[side], name)) for name, side in entries_left(doors, wires, kept)]
    size = sum([module[1] for module in modules])
    return (modules[0][0], size, tuple(entries), exits_left(doors, wires), linked_rules(modules, wires))


def linked_rules(modules, wires):
    """Returns the rules of the modules side by side, where those with a wired exit go on at the entry."""
    ways = ways_of_wires(modules, wires)
    rules = []
    for side, first_state in enumerate(first_states(modules)):
        for state, top, target, push in modules[side][4]:
            rules.append((first_state + state, top, linked_target(ways, side, first_state, target), push))
    return tuple(rules)


def ways_of_wires(modules, wires):
    """Returns a dict from each wired exit, with its side, to the state of the linked module to which it leads."""
    firsts = first_states(modules)
    return {door: firsts[side] + start_of(modules[side], name) for door, (side, name) in wires}


def linked_target(ways, side, first_state, target):
    """Returns the target in the linked module of a rule of this side, whose states are counted from the first state."""
    if isinstance(target, str):
        return ways.get((side, target), target)
    return first_state + target


def first_states(modules):
    """Returns for each module the number of states of those before it."""
    return [sum([module[1] for module in modules[:side]]) for side in range(len(modules))]
