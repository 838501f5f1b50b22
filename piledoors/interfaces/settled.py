"""Settled states: what holds for a state on every stack."""

from piledoors.errors import InvalidClaim
from piledoors.interfaces.search import Separation, side_of, smallest_stack
from piledoors.interfaces.tables import table_of
from piledoors.modules.modules import is_word, require_module, require_state
from piledoors.summaries.endings import EXIT, NO_END
from piledoors.summaries.rows import rows_of
from piledoors.values import is_tuple_of, is_whole


def leaving_stack(module, state):
    """Returns the smallest stack on which the state leaves, or None."""
    require_module(module)
    require_state(module, state)
    return refuting_stack(module, state, NO_END, False)


def settled(module, state, *, clock=False):
    """Returns the claim that holds for the state on every stack, or None."""
    require_module(module)
    require_state(module, state)
    return table_of(module, clock).claims.get(state)


def refutation(module, state, claim, *, clock=False):
    """Returns the smallest stack on which the claim does not hold for the state, or None."""
    require_module(module)
    require_state(module, state)
    if not is_claim(module, claim, clock):
        raise InvalidClaim("not a claim")
    return refuting_stack(module, state, claim, clock)


def refuting_stack(module, state, claim, clock):
    """Returns the same as `refutation` for a claim."""
    side, ticks = side_of(claim)
    rows = rows_of(module, clock)
    search = Separation(rows, rows)
    found = smallest_stack(module[0], search, [search.node(side, state, ticks)])
    return None if found is None else found[1]


def is_claim(module, value, clock):
    """Returns whether the value is a claim."""
    if value == NO_END:
        return True
    if not (is_tuple_of(value, 4) and value[0] == EXIT and value[1] in module[3] and is_word(module[0], value[2])):
        return False
    return is_whole(value[3]) and (value[3] >= 1 if clock else value[3] == 0)
