"""The results of a module on stacks."""

from piledoors.modules.modules import EMPTY, require_module, require_stack, start_of
from piledoors.summaries.endings import EXIT, POP, Endings


def descent(module, entry, stack):
    """Returns the depths that are laid bare, each with its state and the ticks until then."""
    require_module(module)
    state = start_of(module, entry)
    require_stack(module, stack)
    return tuple(laid_bare(Endings(module), state, stack))


def result(module, entry, stack):
    """Returns the exit, the stack that is left and the ticks, or None if control never leaves."""
    require_module(module)
    state = start_of(module, entry)
    require_stack(module, stack)
    endings = Endings(module)
    depth, state, ticks = laid_bare(endings, state, stack)[-1]
    head = (state, stack[depth] if depth < len(stack) else EMPTY)
    ending = endings.ending(head)
    if ending.kind != EXIT:
        return None
    return ending.goal, endings.word(head) + stack[depth + 1:], ticks + ending.ticks


def laid_bare(endings, state, stack):
    """Returns a list of (depth, state, ticks) for all depths that are laid bare from the state on the stack."""
    ticks = 0
    moments = [(0, state, 0)]
    for depth, label in enumerate(stack):
        ending = endings.ending((state, label))
        if ending.kind != POP:
            break
        state = ending.goal
        ticks = ticks + ending.ticks
        moments.append((depth + 1, state, ticks))
    return moments
