"""The results of a module on stacks."""

from piledoors.modules.modules import EMPTY, require_module, require_stack, start_of
from piledoors.summaries.endings import EXIT, POP, Endings, head_table


def descent(module, entry, stack):
    """Returns the depths that are laid bare, each with its state and the ticks until then."""
    require_module(module)
    state = start_of(module, entry)
    require_stack(module, stack)
    return tuple(laid_bare(Endings(head_table(module[4])), state, stack))


def result(module, entry, stack):
    """Returns the exit, the stack that is left and the ticks, or None if control never leaves."""
    require_module(module)
    state = start_of(module, entry)
    require_stack(module, stack)
    endings = Endings(head_table(module[4]))
    return result_behind(endings, stack, laid_bare(endings, state, stack)[-1])


def result_behind(endings, stack, bare):
    """Returns the result, or None, from the last depth that is laid bare, its state and the ticks until then."""
    depth, state, ticks = bare
    told = endings.summary((state, stack[depth] if depth < len(stack) else EMPTY))
    if told[0] != EXIT:
        return None
    return told[1], told[2] + stack[depth + 1:], ticks + told[3]


def laid_bare(endings, state, stack):
    """Returns a list of (depth, state, ticks) for all depths that are laid bare from the state on the stack."""
    ticks = 0
    moments = [(0, state, 0)]
    for depth, label in enumerate(stack):
        ending = endings.ending((state, label))
        if ending[0] != POP:
            break
        state = ending[1]
        ticks = ticks + ending[2]
        moments.append((depth + 1, state, ticks))
    return moments
