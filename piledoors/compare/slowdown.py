"""How many ticks more one of two equivalent modules takes, and the papers that show it."""

from piledoors.compare.equivalence import find_separating, require_comparable
from piledoors.compare.pairs import Pairs, Reached
from piledoors.errors import NotEquivalent
from piledoors.modules.modules import is_word
from piledoors.summaries.endings import NO_END
from piledoors.values import is_tuple_of, is_whole

BOUND = "bound"
GROWS = "grows"


def slowdown(first, second):
    """Returns a slowdown paper of the modules."""
    reached = Reached(pairs_of(first, second))
    ways = reached.ways_out()
    starts = live_starts(reached, ways)
    if not starts:
        return NO_END
    # The choices always lead to an end. Where another move promises more, it is chosen instead.
    choices = ways
    numbers, _ = sums_along(choices)
    while True:
        better = better_choices(reached, choices, numbers)
        if not better:
            return bound_paper(reached, choices, numbers, starts)
        choices = {at: better.get(at, choice) for at, choice in choices.items()}
        numbers, ring = sums_along(choices)
        if ring is not None:
            # On a ring of choices nothing is lost, and where one of them was made for another, something is gained.
            return grows_paper(reached, ways, choices, ring)


def is_slowdown(first, second, value):
    """Returns whether the value is a slowdown paper of the modules."""
    pairs = pairs_of(first, second)
    if is_tuple_of(value, 5) and value[0] == BOUND:
        return is_bound(pairs, value)
    if is_tuple_of(value, 5) and value[0] == GROWS:
        return is_growing(pairs, value)
    if value != NO_END:
        return False
    reached = Reached(pairs)
    return not live_starts(reached, reached.ways_out())


# What follows is for the package.


def pairs_of(first, second):
    """Returns the pairs of two modules, which must be equivalent without clock."""
    require_comparable(first, second)
    found = find_separating(first, second, False)
    if found is not None:
        raise NotEquivalent(found[1])
    return Pairs(first, second)


def live_starts(reached, live):
    """Returns pairs of an entry and the number of its first pair, for those whose first pair is live."""
    starts = [(entry, reached.numbers[pair]) for entry, pair in reached.steps.starts.items()]
    return [(entry, number) for entry, number in starts if number in live]


def sums_along(choices):
    """Returns a dict from each live pair to the sum of the gains along the choices, and None.

    If the choices come back to a pair, this pair is returned instead of None.
    """
    sums = {}
    for start in choices:
        path = []
        at = start
        while at is not None and at not in sums:
            # The pairs of the path are in the dict, but their sums are not known yet.
            sums[at] = None
            path.append(at)
            at = choices[at][1]
        total = 0 if at is None else sums[at]
        if total is None:
            return sums, at
        for at in reversed(path):
            total = total + choices[at][0]
            sums[at] = total
    return sums, None


def better_choices(reached, choices, sums):
    """Returns a dict from each live pair that has a move with a greater sum to the best such move."""
    better = {}
    for at in choices:
        best = sums[at]
        end = reached.ends[at]
        if end is not None and end > best:
            best = end
            better[at] = (end, None, None)
        for move in reached.moves[at]:
            if move[1] in sums and move[0] + sums[move[1]] > best:
                best = move[0] + sums[move[1]]
                better[at] = move
    return better


def bound_paper(reached, choices, numbers, starts):
    """Returns the paper of the greatest difference, where the choices are the best ones."""
    most = max([numbers[at] for entry, at in starts])
    entry, at = [(entry, at) for entry, at in starts if numbers[at] == most][0]
    potentials = tuple(sorted([reached.pairs[live] + (number,) for live, number in numbers.items()]))
    return (BOUND, most, entry, word_along(choices, at, None), potentials)


def grows_paper(reached, ways, choices, ring):
    """Returns the paper of a difference that grows along a ring of choices."""
    entry, before = reached.way_to(ring)
    start = choices[ring]
    around = (start[2],) + word_along(choices, start[1], ring)
    return (GROWS, entry, before, around, word_along(ways, ring, None))


def word_along(choices, at, last):
    """Returns the labels along the choices until they come to the last pair, or to an end if this is None."""
    labels = []
    while at != last:
        _, behind, label = choices[at]
        if label is not None:
            labels.append(label)
        at = behind
    return tuple(labels)


def is_bound(pairs, value):
    """Returns whether this tuple of five parts is a paper of a greatest difference."""
    _, most, entry, stack, potentials = value
    if not (is_whole(most) and entry in list(pairs.starts) and is_word(pairs.labels, stack)):
        return False
    if pairs.difference_of(entry, stack) != most:
        return False
    reached = Reached(pairs)
    live = reached.ways_out()
    if not are_numbers_of(sorted([reached.pairs[at] for at in live]), potentials):
        return False
    numbers = {reached.numbers[part[:2]]: part[2] for part in potentials}
    for start in live_starts(reached, live):
        if numbers[start[1]] > most:
            return False
    return not better_choices(reached, live, numbers)


def are_numbers_of(pairs, value):
    """Returns whether the value is a tuple with one triple for each of the pairs: the pair and an integer."""
    if not is_tuple_of(value, len(pairs)):
        return False
    for pair, part in zip(pairs, value):
        if not (is_tuple_of(part, 3) and all([is_whole(one) for one in part]) and part[:2] == pair):
            return False
    return True


def is_growing(pairs, value):
    """Returns whether this tuple of five parts is a paper of a difference that grows."""
    _, entry, before, around, rest = value
    if entry not in list(pairs.starts) or not all([is_word(pairs.labels, word) for word in value[2:]]):
        return False
    behind = pairs.along(pairs.starts[entry], before)
    if behind is None:
        return False
    # Nothing is gained along an empty word.
    back = pairs.along(behind[0], around)
    if back is None or back[0] != behind[0] or back[1] < 1:
        return False
    return pairs.difference_of(entry, before + rest) is not None
