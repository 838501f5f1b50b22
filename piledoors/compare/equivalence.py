"""Equivalent modules, and the stacks and papers that show whether two modules are."""

from piledoors.errors import InvalidModule
from piledoors.interfaces.search import Separation, smallest_stack
from piledoors.interfaces.tables import STATE, table_of
from piledoors.modules.modules import is_module, require_module, require_state, require_top
from piledoors.summaries.endings import EXIT, NEVER
from piledoors.summaries.rows import place_in_row, rows_of
from piledoors.values import is_ascending, is_tuple_of, is_whole


def reading(module, state, top, *, clock=False):
    """Returns the reading of the state on the top."""
    require_module(module)
    require_state(module, state)
    require_top(module, top)
    return table_of(module, clock).readings(state)[place_in_row(module[0], top)]


def are_equivalent(first, second, *, clock=False):
    """Returns whether the modules are equivalent."""
    require_comparable(first, second)
    return find_separating(first, second, clock) is None


def separating_stack(first, second, *, clock=False):
    """Returns the first entry with the smallest stack that separates the modules there, or None."""
    require_comparable(first, second)
    return find_separating(first, second, clock)


def likeness(first, second, *, clock=False):
    """Returns the least likeness of the modules, or None."""
    require_comparable(first, second)
    one = table_of(first, clock)
    two = table_of(second, clock)
    leads = {}
    waiting = with_lead(one.entry_readings(first[2]), two.entry_readings(second[2]), 0)
    while waiting:
        left, right, lead = waiting.pop()
        if left[0] != STATE or right[0] != STATE:
            if not is_same_end(left, right, lead):
                return None
            continue
        p, q, behind = triple_of(left, right, lead)
        if (p, q) not in leads:
            leads[(p, q)] = behind
            waiting.extend(with_lead(one.readings(p), two.readings(q), behind))
        elif leads[(p, q)] != behind:
            # Both states leave somewhere, and there only one of the two leads is right.
            return None
    return tuple(sorted([(p, q, lead) for (p, q), lead in leads.items()]))


def is_likeness(first, second, value, *, clock=False):
    """Returns whether the value is a likeness of the modules."""
    require_comparable(first, second)
    one = table_of(first, clock)
    two = table_of(second, clock)
    if not (isinstance(value, tuple) and all([is_triple(one, two, clock, part) for part in value])):
        return False
    if not is_ascending(value):
        return False
    triples = {triple: True for triple in value}
    needed = with_lead(one.entry_readings(first[2]), two.entry_readings(second[2]), 0)
    for p, q, lead in value:
        needed.extend(with_lead(one.readings(p), two.readings(q), lead))
    return all([is_match(triples, left, right, lead) for left, right, lead in needed])


# What follows is for the package.


def require_comparable(first, second):
    """Raises an error if one of these is not a module, or if they are not comparable."""
    require_module(first)
    if not (is_module(second) and second[0] == first[0] and second[3] == first[3]):
        raise InvalidModule("not a module, or with other labels or exits than the first one")
    if [name for name, state in first[2]] != [name for name, state in second[2]]:
        raise InvalidModule("the entries have other names than those of the first module")


def find_separating(first, second, clock):
    """Returns the same as `separating_stack` for comparable modules."""
    search = Separation(rows_of(first, clock), rows_of(second, clock))
    starts = [search.node(one[1], two[1], 0) for one, two in zip(first[2], second[2])]
    found = smallest_stack(first[0], search, starts)
    return None if found is None else (first[2][found[0]][0], found[1])


def is_triple(one, two, clock, value):
    """Returns whether the value may stand in a likeness of modules with these tables."""
    if not (is_tuple_of(value, 3) and all([is_whole(part) for part in value])):
        return False
    return one.is_unsettled(value[0]) and two.is_unsettled(value[1]) and (clock or value[2] == 0)


def with_lead(one, two, lead):
    """Returns the pairs of two lists of readings, each with the lead under which it must match."""
    return [(left, right, lead) for left, right in zip(one, two)]


def is_match(triples, left, right, lead):
    """Returns whether two readings match under the lead."""
    if left[0] == STATE and right[0] == STATE:
        return triple_of(left, right, lead) in triples
    return is_same_end(left, right, lead)


def triple_of(left, right, lead):
    """Returns the triple by which two readings match that are both states."""
    return (left[1], right[1], lead + right[2] - left[2])


def is_same_end(left, right, lead):
    """Returns whether two readings, not both of which are states, match."""
    if left[0] == EXIT and right[0] == EXIT:
        return left[:3] == right[:3] and left[3] == right[3] + lead
    return left[0] == NEVER and right[0] == NEVER
