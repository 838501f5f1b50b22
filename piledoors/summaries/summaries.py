"""The summaries of the heads of a module."""

from piledoors.modules.modules import EMPTY, require_module, require_state, require_top, rule_table
from piledoors.summaries.endings import NO_END, POP, Endings, head_table
from piledoors.values import has_boolean


def summary(module, state, top):
    """Returns the summary of the head."""
    require_head(module, state, top)
    return Endings(head_table(module[4])).summary((state, top))


def summaries(module):
    """Returns a dict from each head, with or without a rule, to its summary."""
    require_module(module)
    return all_summaries(module)


def visited_heads(module, state, top):
    """Returns the visited heads of the head, ascending."""
    require_head(module, state, top)
    rules = rule_table(module)
    endings = Endings(head_table(module[4]))
    visited = {(state, top): True}
    waiting = [(state, top)]
    while waiting:
        head = waiting.pop()
        for needed in needed_heads(rules, endings, head):
            if needed not in visited:
                visited[needed] = True
                waiting.append(needed)
    return tuple(sorted(visited))


def is_summary_paper(module, value):
    """Returns whether the value is the summary paper of the module."""
    require_module(module)
    if not isinstance(value, dict) or len(value) != module[1] * (1 + len(module[0])):
        return False
    if value != all_summaries(module):
        return False
    for head, told in value.items():
        if has_boolean(head) or has_boolean(told):
            return False
    return True


def all_summaries(module):
    """Returns a dict from each head of the module to its summary."""
    tops = (EMPTY,) + module[0]
    found = Endings(head_table(module[4])).summaries()
    return {(state, top): found.get((state, top), NO_END) for state in range(module[1]) for top in tops}


def needed_heads(rules, endings, head):
    """Returns the heads whose summaries the one of this head is put together from."""
    if head not in rules or isinstance(rules[head][0], str):
        return []
    state, labels = rules[head]
    if head[1] == EMPTY:
        labels = labels + (EMPTY,)
    needed = []
    for label in labels:
        needed.append((state, label))
        ending = endings.ending((state, label))
        if ending[0] != POP:
            break
        state = ending[1]
    return needed


def require_head(module, state, top):
    """Raises an error if this is not a module, or not a head of it."""
    require_module(module)
    require_state(module, state)
    require_top(module, top)
