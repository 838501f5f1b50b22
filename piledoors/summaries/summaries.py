"""The summaries of the heads of a module."""

from piledoors.modules.modules import EMPTY, require_module, require_state, require_top
from piledoors.summaries.endings import Endings
from piledoors.values import is_tuple_of


def summary(module, state, top):
    """Returns the summary of the head."""
    return endings_from(module, state, top).summary((state, top))


def summaries(module):
    """Returns a dict from each head, with or without a rule, to its summary."""
    require_module(module)
    endings = Endings(module)
    return {head: endings.summary(head) for head in all_heads(module)}


def visited_heads(module, state, top):
    """Returns the visited heads of the head, ascending."""
    return tuple(sorted(endings_from(module, state, top).known))


def is_summary_paper(module, value):
    """Returns whether the value is the summary paper of the module."""
    require_module(module)
    heads = all_heads(module)
    if not (isinstance(value, dict) and len(value) == len(heads) and all([is_plain_head(key) for key in value])):
        return False
    endings = Endings(module)
    for head in heads:
        if head not in value or not is_same_summary(endings.summary(head), value[head]):
            return False
    return True


def all_heads(module):
    """Returns all heads of the module, with or without a rule, ascending."""
    tops = (EMPTY,) + module[0]
    return [(state, top) for state in range(module[1]) for top in tops]


def endings_from(module, state, top):
    """Returns the endings of exactly the visited heads of the head.

    An ending is found by looking only at those heads to which the run comes.
    """
    require_module(module)
    require_state(module, state)
    require_top(module, top)
    endings = Endings(module)
    endings.work_out((state, top))
    return endings


def is_plain_head(value):
    """Returns whether the value is a pair of which the first part is not True or False, which equal 1 and 0."""
    return is_tuple_of(value, 2) and not isinstance(value[0], bool)


def is_same_summary(told, value):
    """Returns whether the value is this summary. It is compared with care: True equals 1."""
    return value == told and not any([isinstance(part, bool) for part in value])
