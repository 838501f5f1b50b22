"""Modules that may replace others in every context, and the stacks and papers that show it. There is no clock here."""

from piledoors.compare.equivalence import require_comparable
from piledoors.interfaces.search import Gap, smallest_stack
from piledoors.interfaces.tables import STATE, table_of
from piledoors.modules.modules import is_word
from piledoors.summaries.endings import EXIT, NEVER
from piledoors.summaries.rows import rows_of
from piledoors.values import is_ascending, is_tuple_of, is_whole


def may_replace(old, new):
    """Returns whether the new module may replace the old one."""
    return replacement(old, new) is not None


def replacement_gap(old, new):
    """Returns the first entry with the smallest stack for which only the old module has its result, or None."""
    require_comparable(old, new)
    search = Gap(rows_of(old, False), rows_of(new, False))
    starts = [search.node(one[1], two[1]) for one, two in zip(old[2], new[2])]
    found = smallest_stack(old[0], search, starts)
    return None if found is None else (old[2][found[0]][0], found[1])


def replacement(old, new):
    """Returns the least replacement, or None."""
    require_comparable(old, new)
    one = table_of(old, False)
    two = table_of(new, False)
    pairs = {}
    exits = {}
    waiting = list(zip(one.entry_readings(old[2]), two.entry_readings(new[2])))
    while waiting:
        left, right = waiting.pop()
        pair = needed_pair(left, right)
        if pair is None:
            if not is_covered_end(left, right):
                return None
        elif pair not in pairs:
            # A state of the old module leaves somewhere, and there only one exit with one word is right.
            if right[0] == EXIT and exits.setdefault(pair[0], pair[1]) != pair[1]:
                return None
            pairs[pair] = True
            waiting.extend(needed_readings(one, two, pair))
    return tuple(sorted(pairs))


def is_replacement(old, new, value):
    """Returns whether the value is a replacement."""
    require_comparable(old, new)
    one = table_of(old, False)
    two = table_of(new, False)
    if not (isinstance(value, tuple) and all([is_pair(old, one, two, part) for part in value])):
        return False
    if not is_ascending(value):
        return False
    pairs = {pair: True for pair in value}
    needed = list(zip(one.entry_readings(old[2]), two.entry_readings(new[2])))
    for pair in value:
        needed.extend(needed_readings(one, two, pair))
    return all([is_covered(pairs, left, right) for left, right in needed])


# What follows is for the package.


def is_pair(old, one, two, value):
    """Returns whether the value may stand in a replacement of the old module, by the tables of both modules."""
    if not (is_tuple_of(value, 2) and is_whole(value[0]) and one.is_unsettled(value[0])):
        return False
    target = value[1]
    if is_tuple_of(target, 2) and target[0] == STATE:
        return is_whole(target[1]) and two.is_unsettled(target[1])
    return is_tuple_of(target, 3) and target[0] == EXIT and target[1] in old[3] and is_word(old[0], target[2])


def needed_pair(left, right):
    """Returns the pair by which a reading of the new module covers one of the old module that is a state, or None."""
    if left[0] != STATE or right[0] == NEVER:
        return None
    return (left[1], right[:-1])


def is_covered_end(left, right):
    """Returns whether a reading is covered by another one without a pair."""
    return left[0] == NEVER or (left[0] == EXIT and left == right)


def is_covered(pairs, left, right):
    """Returns whether a reading of the old module is covered by one of the new module."""
    pair = needed_pair(left, right)
    return is_covered_end(left, right) if pair is None else pair in pairs


def needed_readings(one, two, pair):
    """Returns the pairs of readings of which the second must cover the first if the pair is in a replacement."""
    state, target = pair
    if target[0] == STATE:
        return list(zip(one.readings(state), two.readings(target[1])))
    _, door, word = target
    behind = [(EXIT, door, word, 0)] + [(EXIT, door, word + (label,), 0) for label in one.labels]
    return list(zip(one.readings(state), behind))
